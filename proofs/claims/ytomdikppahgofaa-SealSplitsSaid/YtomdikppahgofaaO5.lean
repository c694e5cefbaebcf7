/- A piece of a proof over this program: contracts of its functions, and a logic to prove them by. -/
import Derived.Test.YtomdikppahgofaaO4
namespace Go.Proofs.Ytomdikppahgofaa
open Go Go.Lg
variable (X : Nat → Option Obj)
theorem isW_bound {n : Int} (h : isW n = true) : 1 ≤ n ∧ n ≤ 8 := by
  unfold isW at h
  simp only [Bool.or_eq_true, decide_eq_true_eq] at h
  omega
theorem Num_ok (l : List UInt8) (w : Nat) (hw : isW (w : Int) = true) (hn : w ≤ l.length) (hl : l.length < 4611686018427387904) : MSpec Try.prog X 24 [Lp 1000000, Ln .i64 (w : Nat)] (rd 1000000 l false) (Ln .u64 (le (l.take w) : Nat)) (rd 1000000 (l.drop w) false) := by
  have hb := isW_bound hw
  refine MSpec.intro Try.func24 rfl (by kernel_rfl) rfl rfl rfl rfl rfl ?_
  intro C
  repeat (first | refine LWP.seq ?_ | refine LWP.ret ?_ | refine LWP.skip ?_ | refine LWP.block ?_ | refine LWP.exit ?_ | refine LWP.condT rfl ?_ | refine LWP.condF rfl ?_ | (refine LWP.region (id := 0) (by kernel_rfl) ?_; refine K.assign rfl .plain ?_; refine RunK.nil ?_) | (refine LWP.region (id := 1) (by kernel_rfl) ?_; refine K.move rfl .plain ?_; refine K.call rfl rfl (isWidth_spec X _ true hw) .plain ?_; refine K.not rfl rfl .plain ?_; refine RunK.nil ?_) | (refine LWP.region (id := 2) (by kernel_rfl) ?_; refine K.move rfl .plain ?_; fail; refine RunK.nil ?_) | (refine LWP.region (id := 3) (by kernel_rfl) ?_; refine K.assign rfl .plain ?_; refine RunK.nil ?_) | (refine LWP.region (id := 4) (by kernel_rfl) ?_; refine K.move rfl .plain ?_; refine K.move rfl .plain ?_; refine K.callM [] (rd 1000000 (l.drop w) false) (Raw_ok X l w hn hl) rfl rfl (by repeat' (first | exact trivial | refine And.intro ⟨_, rfl, ?_⟩ ?_ | refine And.intro ⟨_, rfl⟩ ?_ | rfl | exact Box.ren_bytes _ _ _ _ | exact Box.ren_vals _ _ _ _)) (by repeat' (first | refine all_cons_true ?_ ?_ | rfl | exact bytes_inUse | exact vals_inUse)) rfl rfl rfl rfl (by repeat' (first | exact .nil | refine .box rfl ?_ ?_ | refine .dead rfl ?_ | rfl | exact Box.ren_bytes _ _ _ _ | exact Box.ren_vals _ _ _ _)) .plain ?_; refine K.call rfl rfl (number_spec X _ (by rw [List.length_take]; omega)) .plain ?_; refine K.assign rfl .plain ?_; refine RunK.nil ?_))
  exact ⟨[], ⟨[_], ⟨rfl, trivial⟩, rfl⟩, ⟨⟨_, rfl, rfl⟩, trivial⟩, rfl, rfl⟩
theorem Num_no (l : List UInt8) (b : Bool) (w : Int) (h : (isW w && rawOk l b w) = false) : MSpec Try.prog X 24 [Lp 1000000, Ln .i64 w] (rd 1000000 l b) (Ln .u64 0) (rd 1000000 l true) := by
  refine MSpec.intro Try.func24 rfl (by kernel_rfl) rfl rfl rfl rfl rfl ?_
  intro C
  cases hw : isW w with
  | false =>
    repeat (first | refine LWP.seq ?_ | refine LWP.ret ?_ | refine LWP.skip ?_ | refine LWP.block ?_ | refine LWP.exit ?_ | refine LWP.condT rfl ?_ | refine LWP.condF rfl ?_ | (refine LWP.region (id := 0) (by kernel_rfl) ?_; refine K.assign rfl .plain ?_; refine RunK.nil ?_) | (refine LWP.region (id := 1) (by kernel_rfl) ?_; refine K.move rfl .plain ?_; refine K.call rfl rfl (isWidth_spec X _ false hw) .plain ?_; refine K.not rfl rfl .plain ?_; refine RunK.nil ?_) | (refine LWP.region (id := 2) (by kernel_rfl) ?_; refine K.move rfl .plain ?_; refine K.callM [] (rd 1000000 l true) (spoil_spec X l b) rfl rfl (by repeat' (first | exact trivial | refine And.intro ⟨_, rfl, ?_⟩ ?_ | refine And.intro ⟨_, rfl⟩ ?_ | rfl | exact Box.ren_bytes _ _ _ _ | exact Box.ren_vals _ _ _ _)) (by repeat' (first | refine all_cons_true ?_ ?_ | rfl | exact bytes_inUse | exact vals_inUse)) rfl rfl rfl rfl (by repeat' (first | exact .nil | refine .box rfl ?_ ?_ | refine .dead rfl ?_ | rfl | exact Box.ren_bytes _ _ _ _ | exact Box.ren_vals _ _ _ _)) .plain ?_; refine RunK.nil ?_) | (refine LWP.region (id := 3) (by kernel_rfl) ?_; refine K.assign rfl .plain ?_; refine RunK.nil ?_))
    exact ⟨[], ⟨[_], ⟨rfl, trivial⟩, rfl⟩, ⟨⟨_, rfl, rfl⟩, trivial⟩, rfl, rfl⟩
  | true =>
    have h2 : rawOk l b w = false := by rw [hw] at h; simpa using h
    repeat (first | refine LWP.seq ?_ | refine LWP.ret ?_ | refine LWP.skip ?_ | refine LWP.block ?_ | refine LWP.exit ?_ | refine LWP.condT rfl ?_ | refine LWP.condF rfl ?_ | (refine LWP.region (id := 0) (by kernel_rfl) ?_; refine K.assign rfl .plain ?_; refine RunK.nil ?_) | (refine LWP.region (id := 1) (by kernel_rfl) ?_; refine K.move rfl .plain ?_; refine K.call rfl rfl (isWidth_spec X _ true hw) .plain ?_; refine K.not rfl rfl .plain ?_; refine RunK.nil ?_) | (refine LWP.region (id := 4) (by kernel_rfl) ?_; refine K.move rfl .plain ?_; refine K.move rfl .plain ?_; refine K.callM [] (rd 1000000 l true) (Raw_no X l b w h2) rfl rfl (by repeat' (first | exact trivial | refine And.intro ⟨_, rfl, ?_⟩ ?_ | refine And.intro ⟨_, rfl⟩ ?_ | rfl | exact Box.ren_bytes _ _ _ _ | exact Box.ren_vals _ _ _ _)) (by repeat' (first | refine all_cons_true ?_ ?_ | rfl | exact bytes_inUse | exact vals_inUse)) rfl rfl rfl rfl (by repeat' (first | exact .nil | refine .box rfl ?_ ?_ | refine .dead rfl ?_ | rfl | exact Box.ren_bytes _ _ _ _ | exact Box.ren_vals _ _ _ _)) .plain ?_; refine K.call rfl rfl (number_spec X [] (by decide)) .plain ?_; refine K.assign rfl .plain ?_; refine RunK.nil ?_))
    exact ⟨[], ⟨[_], ⟨rfl, trivial⟩, rfl⟩, ⟨⟨_, rfl, rfl⟩, trivial⟩, rfl, rfl⟩
/-- a short text is there -/
def nameOk (l : List UInt8) (b : Bool) : Bool := !b && match l with | [] => false | c :: t => decide (c.toNat ≤ t.length)
theorem le4 (l : List UInt8) : le (l.take 4) < 4294967296 := by
  have h := le_lt (l.take 4)
  refine Nat.lt_of_lt_of_le h ?_
  exact Nat.le_trans (Nat.pow_le_pow_right (by decide) (by rw [List.length_take]; omega)) (show 256 ^ 4 ≤ 4294967296 by decide)
/-- a part of so many bytes at most is there -/
def partOk (l : List UInt8) (b : Bool) (most : Int) : Bool := !b && (decide (4 ≤ l.length) && (decide ((le (l.take 4) : Int) ≤ most) && decide (le (l.take 4) ≤ l.length - 4)))
end Go.Proofs.Ytomdikppahgofaa
