/- A piece of a proof over this program: contracts of its functions, and a logic to prove them by. -/
import Derived.Test.YtmimcmdeaenblaaO11
namespace Go.Proofs.Ytmimcmdeaenblaa
open Go Go.Lg
variable (X : Nat → Option Obj)
structure Act4 where
  kind : Int
  w : Int
  n : Int
  s : List UInt8
/-- the acts lie in the memory that was there -/
def ActsIn (ad : Option Addr) (acts : List Act4) : Prop := ∀ i a, acts[i]? = some a → ∃ (blk off : Nat) (arr : Array Value) (el : TypeId) (fr : Nat × Nat), ad = some ⟨blk, off, none⟩ ∧ X blk = some (.cells arr el fr) ∧ off + i * 4 + 4 ≤ arr.size ∧
  ((arr.toList.drop (off + i * 4)).take 4).map CV.val = [.val (.int .i64 a.kind), .val (.int .i64 a.w), .val (.int .u64 a.n), vs a.s] ∧
  (0 ≤ a.n ∧ a.n < 18446744073709551616) ∧ (-9223372036854775808 ≤ a.w ∧ a.w < 9223372036854775808) ∧ (-9223372036854775808 ≤ a.kind ∧ a.kind < 9223372036854775808)
/-- both Readers are bad, or have the same left -/
structure Pair (l l' : List UInt8) (b : Bool) : Prop where
  same : b = false → l = l'
  len : l.length < 10000
  len' : l'.length < 10000
theorem Pair.bad {l l' l2 l2' : List UInt8} {b : Bool} (h : Pair l l' b) (h1 : l2.length ≤ l.length) (h2 : l2'.length ≤ l'.length) : Pair l2 l2' true := ⟨fun e => (by cases e), Nat.lt_of_le_of_lt h1 h.len, Nat.lt_of_le_of_lt h2 h.len'⟩
abbrev two (l l' : List UInt8) (b : Bool) : List (Nat × Option Box) := rd 501 l b ++ ru 21 l' b
theorem num_pair (l l' : List UInt8) (b : Bool) (w : Int) (h : Pair l l' b) : ∃ (v : Int) (l2 l2' : List UInt8) (b2 : Bool), Pair l2 l2' b2 ∧
    MSpec Try.prog X 16 [Lp 1000000, Ln .i64 w] (rd 1000000 l b) (Ln .u64 v) (rd 1000000 l2 b2) ∧ MSpec Try.prog X 17 [Lp 1000000, Ln .i64 w] (ru 1000000 l' b) (Ln .u64 v) (ru 1000000 l2' b2) := by
  have hl := h.len
  have hl' := h.len'
  cases hk : (isW w && rawOk l b w) with
  | true =>
    obtain ⟨hw, hr⟩ := Bool.and_eq_true_iff.1 hk
    cases b with
    | true => cases hr
    | false =>
      have := h.same rfl
      subst this
      have hr2 : 0 ≤ w ∧ w ≤ l.length := by simpa [rawOk] using hr
      obtain ⟨k, rfl⟩ := Int.eq_ofNat_of_zero_le hr2.1
      exact ⟨_, _, _, false, ⟨fun _ => rfl, by rw [List.length_drop]; omega, by rw [List.length_drop]; omega⟩, Num_ok X l k hw (by omega) (by omega), UNum_ok X l k hw (by omega)⟩
  | false =>
    have hk' : (isW w && rawOk l' b w) = false := by
      cases b with
      | true => cases isW w <;> rfl
      | false => rw [← h.same rfl]; exact hk
    exact ⟨_, _, _, true, h.bad (Nat.le_refl _) (Nat.le_refl _), Num_no X l b w hk, UNum_no X l' b w hk'⟩
theorem raw_pair (l l' : List UInt8) (b : Bool) (w : Int) (h : Pair l l' b) : ∃ (v l2 l2' : List UInt8) (b2 : Bool), Pair l2 l2' b2 ∧
    MSpec Try.prog X 22 [Lp 1000000, Ln .i64 w] (rd 1000000 l b) (Ls v) (rd 1000000 l2 b2) ∧ MSpec Try.prog X 23 [Lp 1000000, Ln .i64 w] (ru 1000000 l' b) (Ls v) (ru 1000000 l2' b2) := by
  have hl := h.len
  have hl' := h.len'
  cases hk : rawOk l b w with
  | true =>
    cases b with
    | true => cases hk
    | false =>
      have := h.same rfl
      subst this
      have hr2 : 0 ≤ w ∧ w ≤ l.length := by simpa [rawOk] using hk
      obtain ⟨k, rfl⟩ := Int.eq_ofNat_of_zero_le hr2.1
      exact ⟨_, _, _, false, ⟨fun _ => rfl, by rw [List.length_drop]; omega, by rw [List.length_drop]; omega⟩, Raw_ok X l k (by omega) (by omega), URaw_ok X l k (by omega)⟩
  | false =>
    have hk' : rawOk l' b w = false := by
      cases b with
      | true => rfl
      | false => rw [← h.same rfl]; exact hk
    exact ⟨_, _, _, true, h.bad (Nat.le_refl _) (Nat.le_refl _), Raw_no X l b w hk, URaw_no X l' b w hk'⟩
theorem name_pair (l l' : List UInt8) (b : Bool) (h : Pair l l' b) : ∃ (v l2 l2' : List UInt8) (b2 : Bool), Pair l2 l2' b2 ∧
    MSpec Try.prog X 18 [Lp 1000000] (rd 1000000 l b) (Ls v) (rd 1000000 l2 b2) ∧ MSpec Try.prog X 19 [Lp 1000000] (ru 1000000 l' b) (Ls v) (ru 1000000 l2' b2) := by
  have hl := h.len
  have hl' := h.len'
  cases hk : nameOk l b with
  | true =>
    cases b with
    | true => cases hk
    | false =>
      have := h.same rfl
      subst this
      cases l with
      | nil => cases hk
      | cons c t =>
        have hc : c.toNat ≤ t.length := by simpa [nameOk] using hk
        rw [List.length_cons] at hl
        exact ⟨_, _, _, false, ⟨fun _ => rfl, by rw [List.length_drop]; omega, by rw [List.length_drop]; omega⟩, Name_ok X c t hc (by rw [List.length_cons]; omega), UName_ok X c t hc (by rw [List.length_cons]; omega)⟩
  | false =>
    have hk' : nameOk l' b = false := by
      cases b with
      | true => rfl
      | false => rw [← h.same rfl]; exact hk
    obtain ⟨l2, h2, m2⟩ := Name_no X l b hk (by omega)
    obtain ⟨l3, h3, m3⟩ := UName_no X l' b hk' (by omega)
    exact ⟨_, _, _, true, h.bad h2 h3, m2, m3⟩
theorem part_pair (l l' : List UInt8) (b : Bool) (most : Int) (hm : -9223372036854775808 ≤ most ∧ most < 9223372036854775808) (h : Pair l l' b) : ∃ (v l2 l2' : List UInt8) (b2 : Bool), Pair l2 l2' b2 ∧
    MSpec Try.prog X 20 [Lp 1000000, Ln .i64 most] (rd 1000000 l b) (Ls v) (rd 1000000 l2 b2) ∧ MSpec Try.prog X 21 [Lp 1000000, Ln .i64 most] (ru 1000000 l' b) (Ls v) (ru 1000000 l2' b2) := by
  have hl := h.len
  have hl' := h.len'
  cases hk : partOk l b most with
  | true =>
    cases b with
    | true => cases hk
    | false =>
      have := h.same rfl
      subst this
      exact ⟨_, _, _, false, ⟨fun _ => rfl, by rw [List.length_drop, List.length_drop]; omega, by rw [List.length_drop, List.length_drop]; omega⟩, Part_ok X l most hm.2 hk (by omega), UPart_ok X l most hm.2 hk (by omega)⟩
  | false =>
    have hk' : partOk l' b most = false := by
      cases b with
      | true => rfl
      | false => rw [← h.same rfl]; exact hk
    obtain ⟨l2, h2, m2⟩ := Part_no X l b most hm hk (by omega)
    obtain ⟨l3, h3, m3⟩ := UPart_no X l' b most hk' (by omega)
    exact ⟨_, _, _, true, h.bad h2 h3, m2, m3⟩
-- a nil Reader
theorem Bad_nil : PSpec Try.prog X 24 [L0] (Lb true) := by
  refine PSpec.intro Try.func24 rfl (by kernel_rfl) rfl rfl ?_
  intro C
  repeat (first | refine LWP.seq ?_ | refine LWP.ret ?_ | refine LWP.skip ?_ | refine LWP.block ?_ | refine LWP.exit ?_ | refine LWP.condT rfl ?_ | refine LWP.condF rfl ?_ | (refine LWP.region (id := 0) (by kernel_rfl) ?_; refine K.assign rfl .plain ?_; refine RunK.nil ?_) | (refine LWP.region (id := 1) (by kernel_rfl) ?_; refine K.move rfl .plain ?_; (first | refine K.ptrNil rfl (by kernel_rfl) (.inl ⟨rfl, rfl⟩) .plain ?_ | refine K.nilNil rfl (by kernel_rfl) (.inl ⟨rfl, rfl⟩) .plain ?_); refine K.move rfl .plain ?_; (first | refine RunK.passed rfl rfl rfl ?_ | refine RunK.passedU rfl rfl ?_ | refine K.move rfl (.taken rfl rfl) ?_); (first | refine RunK.passed rfl rfl rfl ?_ | refine RunK.passedU rfl rfl ?_ | refine K.nilCheck rfl (.taken rfl rfl) ?_); (first | refine RunK.passed rfl rfl rfl ?_ | refine RunK.passedU rfl rfl ?_ | refine K.fieldAddr rfl rfl (.taken rfl rfl) ?_ | refine K.fieldAddrX rfl rfl (.taken rfl rfl) ?_); (first | refine RunK.passed rfl rfl rfl ?_ | refine RunK.passedU rfl rfl ?_ | refine K.loadOne rfl rfl rfl (.taken rfl rfl) ?_); (first | refine K.pickT rfl rfl .plain ?_ | refine K.pickF rfl rfl .plain ?_); refine K.assign rfl .plain ?_; refine RunK.nil ?_))
  exact ⟨[_], ⟨rfl, trivial⟩, rfl⟩
theorem spoil_nil : PSpec Try.prog X 31 [L0] (.tup []) := by
  refine PSpec.intro Try.func31 rfl (by kernel_rfl) rfl rfl ?_
  intro C
  repeat (first | refine LWP.seq ?_ | refine LWP.ret ?_ | refine LWP.skip ?_ | refine LWP.block ?_ | refine LWP.exit ?_ | refine LWP.condT rfl ?_ | refine LWP.condF rfl ?_ | (refine LWP.region (id := 0) (by kernel_rfl) ?_; refine K.move rfl .plain ?_; (first | refine K.ptrNil rfl (by kernel_rfl) (.inr ⟨rfl, rfl⟩) .plain ?_ | refine K.nilNil rfl (by kernel_rfl) (.inr ⟨rfl, rfl⟩) .plain ?_); refine RunK.nil ?_) | (refine LWP.region (id := 1) (by kernel_rfl) ?_; refine K.move rfl .plain ?_; refine K.nilCheck rfl .plain ?_; (first | refine K.fieldAddr rfl rfl .plain ?_ | refine K.fieldAddrX rfl rfl .plain ?_); refine K.storeOne rfl rfl rfl rfl rfl (by first | exact nl1 rfl rfl | exact nl2 rfl rfl rfl | exact nl3 rfl rfl rfl rfl | exact nl4 rfl rfl rfl rfl rfl | exact nl0 rfl | exact nl5 rfl rfl rfl rfl rfl rfl | exact nl6 rfl rfl rfl rfl rfl rfl rfl | exact nl7 rfl rfl rfl rfl rfl rfl rfl rfl | exact nl8 rfl rfl rfl rfl rfl rfl rfl rfl rfl | exact rfl) .plain ?_; refine RunK.nil ?_))
  exact ⟨[], trivial, rfl⟩
theorem Left_nil : PSpec Try.prog X 25 [L0] (Ln .i64 0) := by
  refine PSpec.intro Try.func25 rfl (by kernel_rfl) rfl rfl ?_
  intro C
  repeat (first | refine LWP.seq ?_ | refine LWP.ret ?_ | refine LWP.skip ?_ | refine LWP.block ?_ | refine LWP.exit ?_ | refine LWP.condT rfl ?_ | refine LWP.condF rfl ?_ | (refine LWP.region (id := 0) (by kernel_rfl) ?_; refine K.assign rfl .plain ?_; refine RunK.nil ?_) | (refine LWP.region (id := 1) (by kernel_rfl) ?_; refine K.move rfl .plain ?_; refine K.call rfl rfl (Bad_nil X) .plain ?_; refine RunK.nil ?_) | (refine LWP.region (id := 2) (by kernel_rfl) ?_; refine K.assign rfl .plain ?_; refine RunK.nil ?_))
  exact ⟨[_], ⟨rfl, trivial⟩, rfl⟩
theorem Done_nil : PSpec Try.prog X 27 [L0] (Lb false) := by
  refine PSpec.intro Try.func27 rfl (by kernel_rfl) rfl rfl ?_
  intro C
  repeat (first | refine LWP.seq ?_ | refine LWP.ret ?_ | refine LWP.skip ?_ | refine LWP.block ?_ | refine LWP.exit ?_ | refine LWP.condT rfl ?_ | refine LWP.condF rfl ?_ | (refine LWP.region (id := 0) (by kernel_rfl) ?_; refine K.assign rfl .plain ?_; refine RunK.nil ?_) | (refine LWP.region (id := 1) (by kernel_rfl) ?_; refine K.move rfl .plain ?_; refine K.call rfl rfl (Bad_nil X) .plain ?_; refine K.not rfl rfl .plain ?_; refine K.move rfl .plain ?_; (first | refine RunK.passed rfl rfl rfl ?_ | refine RunK.passedU rfl rfl ?_ | refine K.move rfl (.taken rfl rfl) ?_); (first | refine RunK.passed rfl rfl rfl ?_ | refine RunK.passedU rfl rfl ?_ | refine K.nilCheck rfl (.taken rfl rfl) ?_); (first | refine RunK.passed rfl rfl rfl ?_ | refine RunK.passedU rfl rfl ?_ | refine K.fieldAddr rfl rfl (.taken rfl rfl) ?_ | refine K.fieldAddrX rfl rfl (.taken rfl rfl) ?_); (first | refine RunK.passed rfl rfl rfl ?_ | refine RunK.passedU rfl rfl ?_ | refine K.loadOne rfl rfl rfl (.taken rfl rfl) ?_); (first | refine RunK.passed rfl rfl rfl ?_ | refine RunK.passedU rfl rfl ?_ | refine K.strEq rfl rfl rfl (.taken rfl rfl) ?_); (first | refine K.pickT rfl rfl .plain ?_ | refine K.pickF rfl rfl .plain ?_); refine K.assign rfl .plain ?_; refine RunK.nil ?_))
  exact ⟨[_], ⟨rfl, trivial⟩, rfl⟩
theorem Raw_nil (n : Int) (hn : 0 ≤ n) : PSpec Try.prog X 22 [L0, Ln .i64 n] (Ls []) := by
  refine PSpec.intro Try.func22 rfl (by kernel_rfl) rfl rfl ?_
  intro C
  by_cases h : 0 < n
  · repeat (first | refine LWP.seq ?_ | refine LWP.ret ?_ | refine LWP.skip ?_ | refine LWP.block ?_ | refine LWP.exit ?_ | refine LWP.condT rfl ?_ | refine LWP.condF rfl ?_ | (refine LWP.region (id := 0) (by kernel_rfl) ?_; refine K.assign rfl .plain ?_; refine RunK.nil ?_) | (refine LWP.region (id := 1) (by kernel_rfl) ?_; refine K.move rfl .plain ?_; refine K.lss rfl rfl (by first | exact decide_eq_true (by omega) | exact decide_eq_false (by omega) | rfl) .plain ?_; refine K.move rfl .plain ?_; (first | refine RunK.passed rfl rfl rfl ?_ | refine RunK.passedU rfl rfl ?_ | refine K.move rfl (.taken rfl rfl) ?_); (first | refine RunK.passed rfl rfl rfl ?_ | refine RunK.passedU rfl rfl ?_ | refine K.move rfl (.taken rfl rfl) ?_); (first | refine RunK.passed rfl rfl rfl ?_ | refine RunK.passedU rfl rfl ?_ | refine K.call rfl rfl (Left_nil X) (.taken rfl rfl) ?_); (first | refine RunK.passed rfl rfl rfl ?_ | refine RunK.passedU rfl rfl ?_ | refine K.gtr rfl rfl (by first | exact decide_eq_true (by omega) | exact decide_eq_false (by omega) | rfl) (.taken rfl rfl) ?_); (first | refine K.pickT rfl rfl .plain ?_ | refine K.pickF rfl rfl .plain ?_); refine RunK.nil ?_) | (refine LWP.region (id := 2) (by kernel_rfl) ?_; refine K.move rfl .plain ?_; refine K.call rfl rfl (spoil_nil X) .plain ?_; refine RunK.nil ?_) | (refine LWP.region (id := 3) (by kernel_rfl) ?_; refine K.move rfl .plain ?_; refine K.call rfl rfl (Bad_nil X) .plain ?_; refine RunK.nil ?_) | (refine LWP.region (id := 4) (by kernel_rfl) ?_; refine K.assign rfl .plain ?_; refine RunK.nil ?_))
    exact ⟨[_], ⟨rfl, trivial⟩, rfl⟩
  · repeat (first | refine LWP.seq ?_ | refine LWP.ret ?_ | refine LWP.skip ?_ | refine LWP.block ?_ | refine LWP.exit ?_ | refine LWP.condT rfl ?_ | refine LWP.condF rfl ?_ | (refine LWP.region (id := 0) (by kernel_rfl) ?_; refine K.assign rfl .plain ?_; refine RunK.nil ?_) | (refine LWP.region (id := 1) (by kernel_rfl) ?_; refine K.move rfl .plain ?_; refine K.lss rfl rfl (by first | exact decide_eq_true (by omega) | exact decide_eq_false (by omega) | rfl) .plain ?_; refine K.move rfl .plain ?_; (first | refine RunK.passed rfl rfl rfl ?_ | refine RunK.passedU rfl rfl ?_ | refine K.move rfl (.taken rfl rfl) ?_); (first | refine RunK.passed rfl rfl rfl ?_ | refine RunK.passedU rfl rfl ?_ | refine K.move rfl (.taken rfl rfl) ?_); (first | refine RunK.passed rfl rfl rfl ?_ | refine RunK.passedU rfl rfl ?_ | refine K.call rfl rfl (Left_nil X) (.taken rfl rfl) ?_); (first | refine RunK.passed rfl rfl rfl ?_ | refine RunK.passedU rfl rfl ?_ | refine K.gtr rfl rfl (by first | exact decide_eq_true (by omega) | exact decide_eq_false (by omega) | rfl) (.taken rfl rfl) ?_); (first | refine K.pickT rfl rfl .plain ?_ | refine K.pickF rfl rfl .plain ?_); refine RunK.nil ?_) | (refine LWP.region (id := 2) (by kernel_rfl) ?_; refine K.move rfl .plain ?_; refine K.call rfl rfl (spoil_nil X) .plain ?_; refine RunK.nil ?_) | (refine LWP.region (id := 3) (by kernel_rfl) ?_; refine K.move rfl .plain ?_; refine K.call rfl rfl (Bad_nil X) .plain ?_; refine RunK.nil ?_) | (refine LWP.region (id := 4) (by kernel_rfl) ?_; refine K.assign rfl .plain ?_; refine RunK.nil ?_))
    exact ⟨[_], ⟨rfl, trivial⟩, rfl⟩
theorem Num_nil_1 : PSpec Try.prog X 16 [L0, Ln .i64 1] (Ln .u64 0) := by
  refine PSpec.intro Try.func16 rfl (by kernel_rfl) rfl rfl ?_
  intro C
  repeat (first | refine LWP.seq ?_ | refine LWP.ret ?_ | refine LWP.skip ?_ | refine LWP.block ?_ | refine LWP.exit ?_ | refine LWP.condT rfl ?_ | refine LWP.condF rfl ?_ | (refine LWP.region (id := 0) (by kernel_rfl) ?_; refine K.assign rfl .plain ?_; refine RunK.nil ?_) | (refine LWP.region (id := 1) (by kernel_rfl) ?_; refine K.move rfl .plain ?_; refine K.call rfl rfl (isWidth_spec X _ true rfl) .plain ?_; refine K.not rfl rfl .plain ?_; refine RunK.nil ?_) | (refine LWP.region (id := 4) (by kernel_rfl) ?_; refine K.move rfl .plain ?_; refine K.move rfl .plain ?_; refine K.call rfl rfl (Raw_nil X 1 (by decide)) .plain ?_; refine K.call rfl rfl (number_spec X [] (by decide)) .plain ?_; refine K.assign rfl .plain ?_; refine RunK.nil ?_))
  exact ⟨[_], ⟨rfl, trivial⟩, rfl⟩
theorem Num_nil_4 : PSpec Try.prog X 16 [L0, Ln .i64 4] (Ln .u64 0) := by
  refine PSpec.intro Try.func16 rfl (by kernel_rfl) rfl rfl ?_
  intro C
  repeat (first | refine LWP.seq ?_ | refine LWP.ret ?_ | refine LWP.skip ?_ | refine LWP.block ?_ | refine LWP.exit ?_ | refine LWP.condT rfl ?_ | refine LWP.condF rfl ?_ | (refine LWP.region (id := 0) (by kernel_rfl) ?_; refine K.assign rfl .plain ?_; refine RunK.nil ?_) | (refine LWP.region (id := 1) (by kernel_rfl) ?_; refine K.move rfl .plain ?_; refine K.call rfl rfl (isWidth_spec X _ true rfl) .plain ?_; refine K.not rfl rfl .plain ?_; refine RunK.nil ?_) | (refine LWP.region (id := 4) (by kernel_rfl) ?_; refine K.move rfl .plain ?_; refine K.move rfl .plain ?_; refine K.call rfl rfl (Raw_nil X 4 (by decide)) .plain ?_; refine K.call rfl rfl (number_spec X [] (by decide)) .plain ?_; refine K.assign rfl .plain ?_; refine RunK.nil ?_))
  exact ⟨[_], ⟨rfl, trivial⟩, rfl⟩
theorem Name_nil : PSpec Try.prog X 18 [L0] (Ls []) := by
  refine PSpec.intro Try.func18 rfl (by kernel_rfl) rfl rfl ?_
  intro C
  repeat (first | refine LWP.seq ?_ | refine LWP.ret ?_ | refine LWP.skip ?_ | refine LWP.block ?_ | refine LWP.exit ?_ | refine LWP.condT rfl ?_ | refine LWP.condF rfl ?_ | (refine LWP.region (id := 0) (by kernel_rfl) ?_; refine K.assign rfl .plain ?_; refine RunK.nil ?_) | (refine LWP.region (id := 1) (by kernel_rfl) ?_; refine K.move rfl .plain ?_; refine K.move rfl .plain ?_; refine K.call rfl rfl (Num_nil_1 X) .plain ?_; refine K.conv rfl (by first | exact wrap_i64 (by omega) | rfl) .plain ?_; refine K.call rfl rfl (Raw_nil X 0 (by decide)) .plain ?_; refine K.assign rfl .plain ?_; refine RunK.nil ?_))
  exact ⟨[_], ⟨rfl, trivial⟩, rfl⟩
theorem Part_nil : PSpec Try.prog X 20 [L0, Ln .i64 9] (Ls []) := by
  refine PSpec.intro Try.func20 rfl (by kernel_rfl) rfl rfl ?_
  intro C
  repeat (first | refine LWP.seq ?_ | refine LWP.ret ?_ | refine LWP.skip ?_ | refine LWP.block ?_ | refine LWP.exit ?_ | refine LWP.condT rfl ?_ | refine LWP.condF rfl ?_ | (refine LWP.region (id := 0) (by kernel_rfl) ?_; refine K.assign rfl .plain ?_; refine RunK.nil ?_) | (refine LWP.region (id := 1) (by kernel_rfl) ?_; refine K.move rfl .plain ?_; refine K.call rfl rfl (Num_nil_4 X) .plain ?_; refine K.assign rfl .plain ?_; refine RunK.nil ?_) | (refine LWP.region (id := 2) (by kernel_rfl) ?_; refine K.move rfl .plain ?_; refine K.lss rfl rfl (by first | exact decide_eq_true (by omega) | exact decide_eq_false (by omega) | rfl) .plain ?_; refine K.move rfl .plain ?_; (first | refine RunK.passed rfl rfl rfl ?_ | refine RunK.passedU rfl rfl ?_ | refine K.move rfl (.taken rfl rfl) ?_); (first | refine RunK.passed rfl rfl rfl ?_ | refine RunK.passedU rfl rfl ?_ | refine K.move rfl (.taken rfl rfl) ?_); (first | refine RunK.passed rfl rfl rfl ?_ | refine RunK.passedU rfl rfl ?_ | refine K.conv rfl (by first | exact wrap_u64 (by omega) | rfl) (.taken rfl rfl) ?_); (first | refine RunK.passed rfl rfl rfl ?_ | refine RunK.passedU rfl rfl ?_ | refine K.gtr rfl rfl (by first | exact decide_eq_true (by omega) | exact decide_eq_false (by omega) | rfl) (.taken rfl rfl) ?_); (first | refine K.pickT rfl rfl .plain ?_ | refine K.pickF rfl rfl .plain ?_); refine RunK.nil ?_) | (refine LWP.region (id := 3) (by kernel_rfl) ?_; refine K.move rfl .plain ?_; fail; refine RunK.nil ?_) | (refine LWP.region (id := 4) (by kernel_rfl) ?_; refine K.assign rfl .plain ?_; refine RunK.nil ?_) | (refine LWP.region (id := 5) (by kernel_rfl) ?_; refine K.move rfl .plain ?_; refine K.move rfl .plain ?_; refine K.conv rfl (by first | exact wrap_i64 (by omega) | rfl) .plain ?_; refine K.call rfl rfl (Raw_nil X 0 (by decide)) .plain ?_; refine K.assign rfl .plain ?_; refine RunK.nil ?_))
  exact ⟨[_], ⟨rfl, trivial⟩, rfl⟩
end Go.Proofs.Ytmimcmdeaenblaa
