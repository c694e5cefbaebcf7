/- A piece of a proof over this program: contracts of its functions, and a logic to prove them by. -/
import Derived.Test.YtfmohdliifmmfaaO4
namespace Go.Proofs.Ytfmohdliifmmfaa
open Go Go.Lg
variable (X : Nat → Option Obj)
theorem isW_bound {n : Int} (h : isW n = true) : 1 ≤ n ∧ n ≤ 8 := by
  unfold isW at h
  simp only [Bool.or_eq_true, decide_eq_true_eq] at h
  omega
theorem Num_ok (l : List UInt8) (w : Nat) (hw : isW (w : Int) = true) (hn : w ≤ l.length) (hl : l.length < 4611686018427387904) : MSpec Try.prog X 43 [Lp 1000000, Ln .i64 (w : Nat)] (rd 1000000 l false) (Ln .u64 (le (l.take w) : Nat)) (rd 1000000 (l.drop w) false) := by
  have hb := isW_bound hw
  refine MSpec.intro Try.func43 rfl (by kernel_rfl) rfl rfl rfl rfl rfl ?_
  intro C
  (refine LWP.seq <| LWP.region (by kernel_rfl) <| kas rfl <| RunK.nil <| LWP.seq <| LWP.seq <| LWP.region (by kernel_rfl) <| kmv rfl <| kca rfl rfl (isWidth_spec X _ true hw) <| K.not rfl rfl .plain <| RunK.nil <| LWP.condF rfl ?_; refine LWP.skip ?_; refine LWP.seq <| LWP.region (by kernel_rfl) <| kmv rfl <| kmv rfl <| K.callM [] (rd 1000000 (l.drop w) false) (Raw_ok X l w hn hl) rfl rfl (by exact (And.intro ⟨_, rfl, rfl⟩ trivial)) (by exact (all_cons_true (all_cons_true rfl (all_cons_true rfl rfl)) rfl)) rfl rfl rfl rfl (by exact (.box rfl rfl .nil)) .plain <| kca rfl rfl (onumber_spec X _ (by rw [List.length_take]; omega)) <| kas rfl <| RunK.nil <| LWP.ret ?_)
  exact ⟨[], ⟨[_], ⟨rfl, trivial⟩, rfl⟩, ⟨⟨_, rfl, rfl⟩, trivial⟩, rfl, rfl⟩
theorem Num_no (l : List UInt8) (b : Bool) (w : Int) (h : (isW w && rawOk l b w) = false) : MSpec Try.prog X 43 [Lp 1000000, Ln .i64 w] (rd 1000000 l b) (Ln .u64 0) (rd 1000000 l true) := by
  refine MSpec.intro Try.func43 rfl (by kernel_rfl) rfl rfl rfl rfl rfl ?_
  intro C
  cases hw : isW w with
  | false =>
    (refine LWP.seq <| LWP.region (by kernel_rfl) <| kas rfl <| RunK.nil <| LWP.seq <| LWP.seq <| LWP.region (by kernel_rfl) <| kmv rfl <| kca rfl rfl (isWidth_spec X _ false hw) <| K.not rfl rfl .plain <| RunK.nil <| LWP.condT rfl ?_; refine LWP.seq <| LWP.region (by kernel_rfl) <| kmv rfl <| K.callM [] (rd 1000000 l true) (spoil_spec X l b) rfl rfl (by exact (And.intro ⟨_, rfl, rfl⟩ trivial)) (by exact (all_cons_true (all_cons_true rfl (all_cons_true rfl rfl)) rfl)) rfl rfl rfl rfl (by exact (.box rfl rfl .nil)) .plain <| RunK.nil <| LWP.seq <| LWP.region (by kernel_rfl) <| kas rfl <| RunK.nil <| LWP.ret ?_)
    exact ⟨[], ⟨[_], ⟨rfl, trivial⟩, rfl⟩, ⟨⟨_, rfl, rfl⟩, trivial⟩, rfl, rfl⟩
  | true =>
    have h2 : rawOk l b w = false := by rw [hw] at h; simpa using h
    (refine LWP.seq <| LWP.region (by kernel_rfl) <| kas rfl <| RunK.nil <| LWP.seq <| LWP.seq <| LWP.region (by kernel_rfl) <| kmv rfl <| kca rfl rfl (isWidth_spec X _ true hw) <| K.not rfl rfl .plain <| RunK.nil <| LWP.condF rfl ?_; refine LWP.skip ?_; refine LWP.seq <| LWP.region (by kernel_rfl) <| kmv rfl <| kmv rfl <| K.callM [] (rd 1000000 l true) (Raw_no X l b w h2) rfl rfl (by exact (And.intro ⟨_, rfl, rfl⟩ trivial)) (by exact (all_cons_true (all_cons_true rfl (all_cons_true rfl rfl)) rfl)) rfl rfl rfl rfl (by exact (.box rfl rfl .nil)) .plain <| kca rfl rfl (onumber_spec X [] (by decide)) <| kas rfl <| RunK.nil <| LWP.ret ?_)
    exact ⟨[], ⟨[_], ⟨rfl, trivial⟩, rfl⟩, ⟨⟨_, rfl, rfl⟩, trivial⟩, rfl, rfl⟩
/-- a short text is there -/
def nameOk (l : List UInt8) (b : Bool) : Bool := !b && match l with | [] => false | c :: t => decide (c.toNat ≤ t.length)
theorem le4 (l : List UInt8) : le (l.take 4) < 4294967296 := by
  have h := le_lt (l.take 4)
  refine Nat.lt_of_lt_of_le h ?_
  exact Nat.le_trans (Nat.pow_le_pow_right (by decide) (by rw [List.length_take]; omega)) (show 256 ^ 4 ≤ 4294967296 by decide)
/-- a part of so many bytes at most is there -/
def partOk (l : List UInt8) (b : Bool) (most : Int) : Bool := !b && (decide (4 ≤ l.length) && (decide ((le (l.take 4) : Int) ≤ most) && decide (le (l.take 4) ≤ l.length - 4)))
end Go.Proofs.Ytfmohdliifmmfaa
