/- A piece of a proof over this program: contracts of its functions, and a logic to prove them by. -/
import Derived.Test.YtopiioklkkiedaaGreatDoorQ2
import Derived.Test.YtopiioklkkiedaaGreatDoorQ3
import Derived.Test.YtopiioklkkiedaaGreatDoorQ4
import Derived.Test.YtopiioklkkiedaaGreatDoorQ5
import Derived.Test.YtopiioklkkiedaaGreatDoorQ6
import Derived.Lib.ItoaNum
import Derived.Lib.Walk
import Derived.Lib.ItoaMem
import Derived.Lib.AppendIntMem
import Derived.WalkKit
import Derived.BigCall
import Derived.BigGuard
import Derived.Lib.Repeat
import Derived.Lib.Join
import Derived.Lib.SmallJoins
import Derived.Test.YtopiioklkkiedaaGreatDoorRows
import Derived.Lib.ItoaLen
import Derived.Laws.BitsAllLaws
import Derived.Lib.IndexLaws
section
namespace Go.Proofs.YtopiioklkkiedaaGreatDoor
open Go Go.Lg Go.Lg.Fml Go.Lg.Fld Go.Lg.Arith
set_option maxRecDepth 100000
theorem leB1o (n : Nat) : leB 1 n = [o8 (n : Nat)] := by
  simp only [leB]
  congr 1
abbrev LOp (op : Int) : LV := .sv (.agg [.val (.bool (op == 2 || op == 3)), .val (.bool (op == 2)), .val (.bool (op == 1))])
theorem op_1 : LOp 1 = .sv (.agg [.val (.bool false), .val (.bool false), .val (.bool true)]) := rfl
theorem op_2 : LOp 2 = .sv (.agg [.val (.bool true), .val (.bool true), .val (.bool false)]) := rfl
theorem op_3 : LOp 3 = .sv (.agg [.val (.bool true), .val (.bool false), .val (.bool false)]) := rfl
theorem op_no {op : Int} (h1 : op ≠ 1) (h2 : op ≠ 2) (h3 : op ≠ 3) : LOp op = .sv (.agg [.val (.bool false), .val (.bool false), .val (.bool false)]) := by
  unfold LOp
  rw [beq_eq_false_iff_ne.2 h1, beq_eq_false_iff_ne.2 h2, beq_eq_false_iff_ne.2 h3]
  rfl
variable (X : Nat → Option Obj)
set_option maxHeartbeats 6400000 in
theorem tOnly3 (A B K : Bool) (x : Ins) (hx : smallI x) : PSpec Tryz.prog X 137 [.sv (.agg [.val (.bool A), .val (.bool B), .val (.bool K)]), LIn x] (Lb ((A || (x.a == 0)) && (B || (x.b == 0)) && (K || decide (x.k = (false, 0))))) := by
  have q := eqI (b := x.k.1) (b' := false) (h := x.k.2 / 18446744073709551616) (h' := 0) (l := x.k.2 % 18446744073709551616) (l' := 0) _ (eqZ hx.2.2.2)
  rw [show decide (((x.k.1, x.k.2) : Nm) = (false, 0)) = decide (x.k = (false, 0)) from rfl] at q
  generalize hr : decide (x.k = (false, 0)) = r at *
  generalize hp : (x.a == 0) = p
  generalize hq : (x.b == 0) = s
  cases A <;> cases p <;> cases B <;> cases s <;> cases K
  all_goals
    refine PSpec.intro Tryz.func137 rfl (by kernel_rfl) rfl rfl ?_
    intro C
    (first | (refine LWP.seq <| rgN <| K.box rfl rfl rfl .plain <| K.box rfl rfl rfl .plain <| kas rfl <| RunK.nil <| LWP.seq <| rgN <| kfa rfl rfl ?_; refine kl1 rfl rfl rfl <| kmv rfl <| K.fieldAddr rfl rfl (.taken rfl rfl) ?_; refine K.loadOne rfl rfl rfl (.taken rfl rfl) ?_; refine K.eql rfl rfl hp (.taken rfl rfl) ?_; refine kpf rfl rfl <| kmv rfl <| K.fieldAddr rfl rfl (.taken rfl rfl) ?_; refine K.loadOne rfl rfl rfl (.taken rfl rfl) ?_; refine gmv rfl rfl rfl <| K.fieldAddr rfl rfl (.taken rfl rfl) ?_; refine K.loadOne rfl rfl rfl (.taken rfl rfl) ?_; refine K.eql rfl rfl hq (.taken rfl rfl) ?_; refine K.pickF rfl rfl (.taken rfl rfl) ?_; refine kpt rfl rfl <| kmv rfl <| K.fieldAddr rfl rfl (.taken rfl rfl) ?_; refine K.loadOne rfl rfl rfl (.taken rfl rfl) ?_; refine gmv rfl rfl rfl <| K.fieldAddr rfl rfl (.taken rfl rfl) ?_; refine K.loadPart rfl rfl rfl (by exact nl3 rfl rfl rfl rfl) (.taken rfl rfl) ?_; refine K.build rfl rfl (by exact rfl) (by exact nl3 rfl rfl rfl rfl) (.taken rfl rfl) ?_; refine K.aggEq rfl rfl rfl rfl (by kernel_rfl) q (.inl ⟨rfl, rfl⟩) (.taken rfl rfl) ?_; refine K.pickF rfl rfl (.taken rfl rfl) ?_; refine kpt rfl rfl <| kas rfl <| RunK.nil <| LWP.ret ?_) | (refine LWP.seq <| rgN <| K.box rfl rfl rfl .plain <| K.box rfl rfl rfl .plain <| kas rfl <| RunK.nil <| LWP.seq <| rgN <| kfa rfl rfl ?_; refine kl1 rfl rfl rfl <| kmv rfl <| K.fieldAddr rfl rfl (.taken rfl rfl) ?_; refine K.loadOne rfl rfl rfl (.taken rfl rfl) ?_; refine K.eql rfl rfl hp (.taken rfl rfl) ?_; refine kpf rfl rfl <| kmv rfl <| K.fieldAddr rfl rfl (.taken rfl rfl) ?_; refine K.loadOne rfl rfl rfl (.taken rfl rfl) ?_; refine gmv rfl rfl rfl <| RunK.passed rfl rfl rfl <| RunK.passed rfl rfl rfl <| RunK.passed rfl rfl rfl <| K.pickT rfl rfl (.taken rfl rfl) ?_; refine kpt rfl rfl <| kmv rfl <| K.fieldAddr rfl rfl (.taken rfl rfl) ?_; refine K.loadOne rfl rfl rfl (.taken rfl rfl) ?_; refine gmv rfl rfl rfl <| K.fieldAddr rfl rfl (.taken rfl rfl) ?_; refine K.loadPart rfl rfl rfl (by exact nl3 rfl rfl rfl rfl) (.taken rfl rfl) ?_; refine K.build rfl rfl (by exact rfl) (by exact nl3 rfl rfl rfl rfl) (.taken rfl rfl) ?_; refine K.aggEq rfl rfl rfl rfl (by kernel_rfl) q (.inl ⟨rfl, rfl⟩) (.taken rfl rfl) ?_; refine K.pickF rfl rfl (.taken rfl rfl) ?_; refine kpt rfl rfl <| kas rfl <| RunK.nil <| LWP.ret ?_) | (refine LWP.seq <| rgN <| K.box rfl rfl rfl .plain <| K.box rfl rfl rfl .plain <| kas rfl <| RunK.nil <| LWP.seq <| rgN <| kfa rfl rfl ?_; refine kl1 rfl rfl rfl <| kmv rfl <| RunK.passed rfl rfl rfl <| RunK.passed rfl rfl rfl <| RunK.passed rfl rfl rfl <| kpt rfl rfl <| kmv rfl <| K.fieldAddr rfl rfl (.taken rfl rfl) ?_; refine K.loadOne rfl rfl rfl (.taken rfl rfl) ?_; refine gmv rfl rfl rfl <| K.fieldAddr rfl rfl (.taken rfl rfl) ?_; refine K.loadOne rfl rfl rfl (.taken rfl rfl) ?_; refine K.eql rfl rfl hq (.taken rfl rfl) ?_; refine K.pickF rfl rfl (.taken rfl rfl) ?_; refine kpt rfl rfl <| kmv rfl <| K.fieldAddr rfl rfl (.taken rfl rfl) ?_; refine K.loadOne rfl rfl rfl (.taken rfl rfl) ?_; refine gmv rfl rfl rfl <| K.fieldAddr rfl rfl (.taken rfl rfl) ?_; refine K.loadPart rfl rfl rfl (by exact nl3 rfl rfl rfl rfl) (.taken rfl rfl) ?_; refine K.build rfl rfl (by exact rfl) (by exact nl3 rfl rfl rfl rfl) (.taken rfl rfl) ?_; refine K.aggEq rfl rfl rfl rfl (by kernel_rfl) q (.inl ⟨rfl, rfl⟩) (.taken rfl rfl) ?_; refine K.pickF rfl rfl (.taken rfl rfl) ?_; refine kpt rfl rfl <| kas rfl <| RunK.nil <| LWP.ret ?_) | (refine LWP.seq <| rgN <| K.box rfl rfl rfl .plain <| K.box rfl rfl rfl .plain <| kas rfl <| RunK.nil <| LWP.seq <| rgN <| kfa rfl rfl ?_; refine kl1 rfl rfl rfl <| kmv rfl <| RunK.passed rfl rfl rfl <| RunK.passed rfl rfl rfl <| RunK.passed rfl rfl rfl <| kpt rfl rfl <| kmv rfl <| K.fieldAddr rfl rfl (.taken rfl rfl) ?_; refine K.loadOne rfl rfl rfl (.taken rfl rfl) ?_; refine gmv rfl rfl rfl <| RunK.passed rfl rfl rfl <| RunK.passed rfl rfl rfl <| RunK.passed rfl rfl rfl <| K.pickT rfl rfl (.taken rfl rfl) ?_; refine kpt rfl rfl <| kmv rfl <| K.fieldAddr rfl rfl (.taken rfl rfl) ?_; refine K.loadOne rfl rfl rfl (.taken rfl rfl) ?_; refine gmv rfl rfl rfl <| K.fieldAddr rfl rfl (.taken rfl rfl) ?_; refine K.loadPart rfl rfl rfl (by exact nl3 rfl rfl rfl rfl) (.taken rfl rfl) ?_; refine K.build rfl rfl (by exact rfl) (by exact nl3 rfl rfl rfl rfl) (.taken rfl rfl) ?_; refine K.aggEq rfl rfl rfl rfl (by kernel_rfl) q (.inl ⟨rfl, rfl⟩) (.taken rfl rfl) ?_; refine K.pickF rfl rfl (.taken rfl rfl) ?_; refine kpt rfl rfl <| kas rfl <| RunK.nil <| LWP.ret ?_) | (refine LWP.seq <| rgN <| K.box rfl rfl rfl .plain <| K.box rfl rfl rfl .plain <| kas rfl <| RunK.nil <| LWP.seq <| rgN <| kfa rfl rfl ?_; refine kl1 rfl rfl rfl <| kmv rfl <| K.fieldAddr rfl rfl (.taken rfl rfl) ?_; refine K.loadOne rfl rfl rfl (.taken rfl rfl) ?_; refine K.eql rfl rfl hp (.taken rfl rfl) ?_; refine kpf rfl rfl <| kmv rfl <| K.fieldAddr rfl rfl (.taken rfl rfl) ?_; refine K.loadOne rfl rfl rfl (.taken rfl rfl) ?_; refine gmv rfl rfl rfl <| K.fieldAddr rfl rfl (.taken rfl rfl) ?_; refine K.loadOne rfl rfl rfl (.taken rfl rfl) ?_; refine K.eql rfl rfl hq (.taken rfl rfl) ?_; refine K.pickF rfl rfl (.taken rfl rfl) ?_; refine kpt rfl rfl <| kmv rfl <| K.fieldAddr rfl rfl (.taken rfl rfl) ?_; refine K.loadOne rfl rfl rfl (.taken rfl rfl) ?_; refine gmv rfl rfl rfl <| RunK.passed rfl rfl rfl <| RunK.passed rfl rfl rfl <| RunK.passed rfl rfl rfl <| RunK.passed rfl rfl rfl <| K.pickT rfl rfl (.taken rfl rfl) ?_; refine kpt rfl rfl <| kas rfl <| RunK.nil <| LWP.ret ?_) | (refine LWP.seq <| rgN <| K.box rfl rfl rfl .plain <| K.box rfl rfl rfl .plain <| kas rfl <| RunK.nil <| LWP.seq <| rgN <| kfa rfl rfl ?_; refine kl1 rfl rfl rfl <| kmv rfl <| K.fieldAddr rfl rfl (.taken rfl rfl) ?_; refine K.loadOne rfl rfl rfl (.taken rfl rfl) ?_; refine K.eql rfl rfl hp (.taken rfl rfl) ?_; refine kpf rfl rfl <| kmv rfl <| K.fieldAddr rfl rfl (.taken rfl rfl) ?_; refine K.loadOne rfl rfl rfl (.taken rfl rfl) ?_; refine gmv rfl rfl rfl <| RunK.passed rfl rfl rfl <| RunK.passed rfl rfl rfl <| RunK.passed rfl rfl rfl <| K.pickT rfl rfl (.taken rfl rfl) ?_; refine kpt rfl rfl <| kmv rfl <| K.fieldAddr rfl rfl (.taken rfl rfl) ?_; refine K.loadOne rfl rfl rfl (.taken rfl rfl) ?_; refine gmv rfl rfl rfl <| RunK.passed rfl rfl rfl <| RunK.passed rfl rfl rfl <| RunK.passed rfl rfl rfl <| RunK.passed rfl rfl rfl <| K.pickT rfl rfl (.taken rfl rfl) ?_; refine kpt rfl rfl <| kas rfl <| RunK.nil <| LWP.ret ?_) | (refine LWP.seq <| rgN <| K.box rfl rfl rfl .plain <| K.box rfl rfl rfl .plain <| kas rfl <| RunK.nil <| LWP.seq <| rgN <| kfa rfl rfl ?_; refine kl1 rfl rfl rfl <| kmv rfl <| RunK.passed rfl rfl rfl <| RunK.passed rfl rfl rfl <| RunK.passed rfl rfl rfl <| kpt rfl rfl <| kmv rfl <| K.fieldAddr rfl rfl (.taken rfl rfl) ?_; refine K.loadOne rfl rfl rfl (.taken rfl rfl) ?_; refine gmv rfl rfl rfl <| K.fieldAddr rfl rfl (.taken rfl rfl) ?_; refine K.loadOne rfl rfl rfl (.taken rfl rfl) ?_; refine K.eql rfl rfl hq (.taken rfl rfl) ?_; refine K.pickF rfl rfl (.taken rfl rfl) ?_; refine kpt rfl rfl <| kmv rfl <| K.fieldAddr rfl rfl (.taken rfl rfl) ?_; refine K.loadOne rfl rfl rfl (.taken rfl rfl) ?_; refine gmv rfl rfl rfl <| RunK.passed rfl rfl rfl <| RunK.passed rfl rfl rfl <| RunK.passed rfl rfl rfl <| RunK.passed rfl rfl rfl <| K.pickT rfl rfl (.taken rfl rfl) ?_; refine kpt rfl rfl <| kas rfl <| RunK.nil <| LWP.ret ?_) | (refine LWP.seq <| rgN <| K.box rfl rfl rfl .plain <| K.box rfl rfl rfl .plain <| kas rfl <| RunK.nil <| LWP.seq <| rgN <| kfa rfl rfl ?_; refine kl1 rfl rfl rfl <| kmv rfl <| K.fieldAddr rfl rfl (.taken rfl rfl) ?_; refine K.loadOne rfl rfl rfl (.taken rfl rfl) ?_; refine K.eql rfl rfl hp (.taken rfl rfl) ?_; refine kpf rfl rfl <| kmv rfl <| K.fieldAddr rfl rfl (.taken rfl rfl) ?_; refine K.loadOne rfl rfl rfl (.taken rfl rfl) ?_; refine gmv rfl rfl rfl <| K.fieldAddr rfl rfl (.taken rfl rfl) ?_; refine K.loadOne rfl rfl rfl (.taken rfl rfl) ?_; refine K.eql rfl rfl hq (.taken rfl rfl) ?_; refine K.pickF rfl rfl (.taken rfl rfl) ?_; refine kpt rfl rfl <| kmv rfl <| RunK.passed rfl rfl rfl <| RunK.passed rfl rfl rfl <| RunK.passed rfl rfl rfl <| RunK.passedU rfl rfl <| RunK.passedU rfl rfl <| RunK.passedU rfl rfl <| RunK.passedU rfl rfl <| RunK.passed rfl rfl rfl <| kpf rfl rfl <| kas rfl <| RunK.nil <| LWP.ret ?_) | (refine LWP.seq <| rgN <| K.box rfl rfl rfl .plain <| K.box rfl rfl rfl .plain <| kas rfl <| RunK.nil <| LWP.seq <| rgN <| kfa rfl rfl ?_; refine kl1 rfl rfl rfl <| kmv rfl <| RunK.passed rfl rfl rfl <| RunK.passed rfl rfl rfl <| RunK.passed rfl rfl rfl <| kpt rfl rfl <| kmv rfl <| K.fieldAddr rfl rfl (.taken rfl rfl) ?_; refine K.loadOne rfl rfl rfl (.taken rfl rfl) ?_; refine gmv rfl rfl rfl <| RunK.passed rfl rfl rfl <| RunK.passed rfl rfl rfl <| RunK.passed rfl rfl rfl <| K.pickT rfl rfl (.taken rfl rfl) ?_; refine kpt rfl rfl <| kmv rfl <| K.fieldAddr rfl rfl (.taken rfl rfl) ?_; refine K.loadOne rfl rfl rfl (.taken rfl rfl) ?_; refine gmv rfl rfl rfl <| RunK.passed rfl rfl rfl <| RunK.passed rfl rfl rfl <| RunK.passed rfl rfl rfl <| RunK.passed rfl rfl rfl <| K.pickT rfl rfl (.taken rfl rfl) ?_; refine kpt rfl rfl <| kas rfl <| RunK.nil <| LWP.ret ?_) | (refine LWP.seq <| rgN <| K.box rfl rfl rfl .plain <| K.box rfl rfl rfl .plain <| kas rfl <| RunK.nil <| LWP.seq <| rgN <| kfa rfl rfl ?_; refine kl1 rfl rfl rfl <| kmv rfl <| RunK.passed rfl rfl rfl <| RunK.passed rfl rfl rfl <| RunK.passed rfl rfl rfl <| kpt rfl rfl <| kmv rfl <| K.fieldAddr rfl rfl (.taken rfl rfl) ?_; refine K.loadOne rfl rfl rfl (.taken rfl rfl) ?_; refine gmv rfl rfl rfl <| K.fieldAddr rfl rfl (.taken rfl rfl) ?_; refine K.loadOne rfl rfl rfl (.taken rfl rfl) ?_; refine K.eql rfl rfl hq (.taken rfl rfl) ?_; refine K.pickF rfl rfl (.taken rfl rfl) ?_; refine kpt rfl rfl <| kmv rfl <| RunK.passed rfl rfl rfl <| RunK.passed rfl rfl rfl <| RunK.passed rfl rfl rfl <| RunK.passedU rfl rfl <| RunK.passedU rfl rfl <| RunK.passedU rfl rfl <| RunK.passedU rfl rfl <| RunK.passed rfl rfl rfl <| kpf rfl rfl <| kas rfl <| RunK.nil <| LWP.ret ?_) | (refine LWP.seq <| rgN <| K.box rfl rfl rfl .plain <| K.box rfl rfl rfl .plain <| kas rfl <| RunK.nil <| LWP.seq <| rgN <| kfa rfl rfl ?_; refine kl1 rfl rfl rfl <| kmv rfl <| K.fieldAddr rfl rfl (.taken rfl rfl) ?_; refine K.loadOne rfl rfl rfl (.taken rfl rfl) ?_; refine K.eql rfl rfl hp (.taken rfl rfl) ?_; refine kpf rfl rfl <| kmv rfl <| RunK.passed rfl rfl rfl <| RunK.passed rfl rfl rfl <| RunK.passed rfl rfl rfl <| RunK.passedU rfl rfl <| RunK.passedU rfl rfl <| RunK.passedU rfl rfl <| RunK.passed rfl rfl rfl <| kpf rfl rfl <| kmv rfl <| RunK.passed rfl rfl rfl <| RunK.passed rfl rfl rfl <| RunK.passed rfl rfl rfl ?_; refine RunK.passedU rfl rfl <| RunK.passedU rfl rfl <| RunK.passedU rfl rfl <| RunK.passedU rfl rfl <| RunK.passed rfl rfl rfl <| kpf rfl rfl <| kas rfl <| RunK.nil <| LWP.ret ?_))
    exact ⟨[_], ⟨rfl, trivial⟩, rfl⟩
theorem tOnly (x : Ins) (hx : smallI x) : PSpec Tryz.prog X 137 [LOp x.op, LIn x] (Lb (plainI x)) := by
  have h := tOnly3 X (x.op == 2 || x.op == 3) (x.op == 2) (x.op == 1) x hx
  have e : (((x.op == 2 || x.op == 3) || (x.a == 0)) && ((x.op == 2) || (x.b == 0)) && ((x.op == 1) || decide (x.k = (false, 0)))) = plainI x := by
    unfold plainI
    have hb : ∀ a b : Int, (a == b) = decide (a = b) := fun a b => rfl
    rw [hb, hb, hb, hb, hb]
    generalize decide (x.op = 1) = a1
    generalize decide (x.op = 2) = a2
    generalize decide (x.op = 3) = a3
    generalize decide (x.a = 0) = b1
    generalize decide (x.b = 0) = b2
    generalize decide (x.k = (false, 0)) = b3
    cases a1 <;> cases a2 <;> cases a3 <;> cases b1 <;> cases b2 <;> cases b3 <;> rfl
  rw [e] at h
  exact h
theorem ePut_0 (n : Nat) (h : n < 256) : MSpec Tryz.prog X 136 [Lp 1000000, Ln .i64 (n : Nat)] (w0 1000000) (.tup []) (w1 1000000 1000001 1000002 [o8 (n : Nat)]) := by
  have hN := WNum_0_1 X n (by omega) (by omega)
  rw [leB1o n] at hN
  refine MSpec.intro Tryz.func136 rfl (by kernel_rfl) rfl rfl (by repeat' (first | refine all_cons_true ?_ ?_ | rfl | exact bytes_inUse | exact vals_inUse | exact mid_inUse rfl)) rfl rfl ?_
  intro C
  have hw : IntKind.u64.wrap ((n : Nat) : Int) = ((n : Nat) : Int) := wrap_u64 (by omega)
  (refine rgN <| kmv rfl <| kmv rfl <| kcv rfl hw ?_; refine K.callM [(1000001, 501), (1000002, 502)] (w1 1000000 501 502 [o8 (n : Nat)]) (hN) rfl rfl (by exact (And.intro ⟨_, rfl, rfl⟩ trivial)) (by exact (all_cons_true (all_cons_true rfl (all_cons_true rfl rfl)) rfl)) rfl rfl rfl rfl (by exact (.box rfl rfl (.box rfl rfl (.box rfl rfl .nil)))) .plain <| RunK.nil ?_)
  exact ⟨[(1000001, 501), (1000002, 502)], ⟨[], trivial, rfl⟩, (by repeat' (first | exact trivial | refine And.intro ⟨_, rfl, ?_⟩ ?_ | refine And.intro ⟨_, rfl⟩ ?_ | rfl | exact Box.ren_bytes _ _ _ _ | exact Box.ren_vals _ _ _ _ | exact Box.ren_mid rfl)), rfl, rfl⟩
theorem ePut_1 (l : List UInt8) (n : Int) (h : 0 ≤ n ∧ n < 256) (hl : l.length < 900000000) : MSpec Tryz.prog X 136 [Lp 1000000, Ln .i64 n] (w1 1000000 1000001 1000002 l) (.tup []) (w1 1000000 1000001 1000003 (l ++ [o8 n]) ++ [(1000002, none)]) := by
  obtain ⟨k, rfl⟩ := Int.eq_ofNat_of_zero_le h.1
  have hk : k < 256 := by omega
  have hN := WNum_1_1 X l k (by omega) (by omega) hl
  rw [leB1o k] at hN
  refine MSpec.intro Tryz.func136 rfl (by kernel_rfl) rfl rfl (by repeat' (first | refine all_cons_true ?_ ?_ | rfl | exact bytes_inUse | exact vals_inUse | exact mid_inUse rfl)) rfl rfl ?_
  intro C
  have hw : IntKind.u64.wrap ((k : Nat) : Int) = ((k : Nat) : Int) := wrap_u64 (by omega)
  (refine rgN <| kmv rfl <| kmv rfl <| kcv rfl hw ?_; refine K.callM [(1000003, 501)] (w1 1000000 1000001 501 (l ++ [o8 (k : Nat)]) ++ [(1000002, none)]) (hN) rfl rfl (by exact (And.intro ⟨_, rfl, rfl⟩ (And.intro ⟨_, rfl, rfl⟩ (And.intro ⟨_, rfl, (Box.ren_bytes _ _ _ _)⟩ trivial)))) (by exact (all_cons_true (all_cons_true rfl (all_cons_true rfl rfl)) (all_cons_true (all_cons_true rfl rfl) (all_cons_true bytes_inUse rfl)))) rfl rfl rfl rfl (by exact (.box rfl rfl (.box rfl rfl (.box rfl (Box.ren_bytes _ _ _ _) (.dead rfl .nil))))) .plain <| RunK.nil ?_)
  exact ⟨[(1000003, 501)], ⟨[], trivial, rfl⟩, (by repeat' (first | exact trivial | refine And.intro ⟨_, rfl, ?_⟩ ?_ | refine And.intro ⟨_, rfl⟩ ?_ | rfl | exact Box.ren_bytes _ _ _ _ | exact Box.ren_vals _ _ _ _ | exact Box.ren_mid rfl)), rfl, rfl⟩
def numX (k : Nm) : List UInt8 := sgB k.1 :: (leB 8 (loW k.2) ++ leB 8 (hiW k.2))
theorem LI_words {N : Int} (h : In2 N) (b : Bool) : LI b N = Li b ((hiW N : Nat) : Int) ((loW N : Nat) : Int) := by
  obtain ⟨h1, h2, h3⟩ := words h
  unfold LI
  have e1 : N / 18446744073709551616 = ((hiW N : Nat) : Int) := by unfold In2 at h; unfold hiW; omega
  have e2 : N % 18446744073709551616 = ((loW N : Nat) : Int) := by unfold loW; omega
  rw [e1, e2]
set_option maxHeartbeats 3200000 in
theorem ePutNum (l : List UInt8) (k : Nm) (hk : In2 k.2) (hl : l.length < 800000000) : MSpec Tryz.prog X 177 [Lp 1000000, LI k.1 k.2] (w1 1000000 1000001 1000002 l) (.tup []) (w1 1000000 1000001 1000003 (l ++ numX k) ++ [(1000002, none)]) := by
  rw [LI_words hk]
  obtain ⟨_, h2, h3⟩ := words hk
  have hp : (256 : Nat) ^ 8 = 18446744073709551616 := by decide
  obtain ⟨b, N⟩ := k
  unfold numX
  simp only at hk h2 h3 ⊢
  generalize loW N = lo at *
  generalize hiW N = hi at *
  have p1 := fun n h => ePut_1 X l n h (by omega)
  have p2 := WNum_1_8 X (l ++ [sgB b]) lo (by omega) (by omega) (by rw [List.length_append, List.length_singleton]; omega)
  have p3 := WNum_1_8 X ((l ++ [sgB b]) ++ leB 8 lo) hi (by omega) (by omega) (by rw [List.length_append, List.length_append, List.length_singleton, leB_length]; omega)
  have hfin : l ++ sgB b :: (leB 8 lo ++ leB 8 hi) = ((l ++ [sgB b]) ++ leB 8 lo) ++ leB 8 hi := by simp
  rw [hfin]
  refine MSpec.intro Tryz.func177 rfl (by kernel_rfl) rfl rfl (by repeat' (first | refine all_cons_true ?_ ?_ | rfl | exact bytes_inUse | exact vals_inUse | exact mid_inUse rfl)) rfl rfl ?_
  intro C
  cases b with
  | false =>
    have p1 : MSpec Tryz.prog X 136 [Lp 1000000, Ln .i64 0] (w1 1000000 1000001 1000002 l) (.tup []) (w1 1000000 1000001 1000003 (l ++ [sgB false]) ++ [(1000002, none)]) := p1 0 ⟨by decide, by decide⟩
    (refine LWP.seq <| rgN <| K.box rfl rfl rfl .plain <| RunK.nil <| LWP.seq <| rgN <| kas rfl <| RunK.nil <| LWP.seq <| LWP.seq <| rgN <| kfa rfl rfl ?_; refine kl1 rfl rfl rfl <| RunK.nil <| LWP.condF rfl ?_; refine LWP.skip ?_; refine LWP.seq <| rgN <| kmv rfl <| kmv rfl <| K.callM [(1000003, 501)] (w1 1000000 1000001 501 (l ++ [sgB false]) ++ [(1000002, none)]) (p1) rfl rfl (by exact (And.intro ⟨_, rfl, rfl⟩ (And.intro ⟨_, rfl, rfl⟩ (And.intro ⟨_, rfl, (Box.ren_bytes _ _ _ _)⟩ trivial)))) (by exact (all_cons_true (all_cons_true rfl (all_cons_true rfl rfl)) (all_cons_true (all_cons_true rfl rfl) (all_cons_true bytes_inUse rfl)))) rfl rfl rfl rfl (by exact (.box rfl rfl (.box rfl rfl (.box rfl (Box.ren_bytes _ _ _ _) (.dead rfl .nil))))) .plain <| RunK.nil <| LWP.seq <| rgN <| kmv rfl <| kfa rfl rfl ?_; refine kl1 rfl rfl rfl <| K.callM [(1000002, 501), (1000003, 502)] (w1 1000000 1000001 502 ((l ++ [sgB false]) ++ leB 8 lo) ++ [(501, none)]) (p2) rfl rfl (by exact (And.intro ⟨_, rfl, rfl⟩ (And.intro ⟨_, rfl, rfl⟩ (And.intro ⟨_, rfl, (Box.ren_bytes _ _ _ _)⟩ trivial)))) (by exact (all_cons_true (all_cons_true rfl (all_cons_true rfl rfl)) (all_cons_true (all_cons_true rfl rfl) (all_cons_true bytes_inUse rfl)))) rfl rfl rfl rfl (by exact (.box rfl rfl (.box rfl rfl (.box rfl (Box.ren_bytes _ _ _ _) (.dead rfl .nil))))) .plain <| RunK.nil <| rgN <| kmv rfl <| kfa rfl rfl ?_; refine kl1 rfl rfl rfl <| K.callM [(1000002, 502), (1000003, 503)] (w1 1000000 1000001 503 (((l ++ [sgB false]) ++ leB 8 lo) ++ leB 8 hi) ++ [(502, none)]) (p3) rfl rfl (by exact (And.intro ⟨_, rfl, rfl⟩ (And.intro ⟨_, rfl, rfl⟩ (And.intro ⟨_, rfl, (Box.ren_bytes _ _ _ _)⟩ trivial)))) (by exact (all_cons_true (all_cons_true rfl (all_cons_true rfl rfl)) (all_cons_true (all_cons_true rfl rfl) (all_cons_true bytes_inUse rfl)))) rfl rfl rfl rfl (by exact (.box rfl rfl (.box rfl rfl (.box rfl (Box.ren_bytes _ _ _ _) (.dead rfl .nil))))) .plain <| RunK.nil ?_)
    exact ⟨[(1000003, 503)], ⟨[], trivial, rfl⟩, (by repeat' (first | exact trivial | refine And.intro ⟨_, rfl, ?_⟩ ?_ | refine And.intro ⟨_, rfl⟩ ?_ | rfl | exact Box.ren_bytes _ _ _ _ | exact Box.ren_vals _ _ _ _ | exact Box.ren_mid rfl)), rfl, rfl⟩
  | true =>
    have p1 : MSpec Tryz.prog X 136 [Lp 1000000, Ln .i64 1] (w1 1000000 1000001 1000002 l) (.tup []) (w1 1000000 1000001 1000003 (l ++ [sgB true]) ++ [(1000002, none)]) := p1 1 ⟨by decide, by decide⟩
    (refine LWP.seq <| rgN <| K.box rfl rfl rfl .plain <| RunK.nil <| LWP.seq <| rgN <| kas rfl <| RunK.nil <| LWP.seq <| LWP.seq <| rgN <| kfa rfl rfl ?_; refine kl1 rfl rfl rfl <| RunK.nil <| LWP.condT rfl ?_; refine rgN <| kas rfl <| RunK.nil <| LWP.seq <| rgN <| kmv rfl <| kmv rfl <| K.callM [(1000003, 501)] (w1 1000000 1000001 501 (l ++ [sgB true]) ++ [(1000002, none)]) (p1) rfl rfl (by exact (And.intro ⟨_, rfl, rfl⟩ (And.intro ⟨_, rfl, rfl⟩ (And.intro ⟨_, rfl, (Box.ren_bytes _ _ _ _)⟩ trivial)))) (by exact (all_cons_true (all_cons_true rfl (all_cons_true rfl rfl)) (all_cons_true (all_cons_true rfl rfl) (all_cons_true bytes_inUse rfl)))) rfl rfl rfl rfl (by exact (.box rfl rfl (.box rfl rfl (.box rfl (Box.ren_bytes _ _ _ _) (.dead rfl .nil))))) .plain <| RunK.nil <| LWP.seq <| rgN <| kmv rfl <| kfa rfl rfl ?_; refine kl1 rfl rfl rfl <| K.callM [(1000002, 501), (1000003, 502)] (w1 1000000 1000001 502 ((l ++ [sgB true]) ++ leB 8 lo) ++ [(501, none)]) (p2) rfl rfl (by exact (And.intro ⟨_, rfl, rfl⟩ (And.intro ⟨_, rfl, rfl⟩ (And.intro ⟨_, rfl, (Box.ren_bytes _ _ _ _)⟩ trivial)))) (by exact (all_cons_true (all_cons_true rfl (all_cons_true rfl rfl)) (all_cons_true (all_cons_true rfl rfl) (all_cons_true bytes_inUse rfl)))) rfl rfl rfl rfl (by exact (.box rfl rfl (.box rfl rfl (.box rfl (Box.ren_bytes _ _ _ _) (.dead rfl .nil))))) .plain <| RunK.nil <| rgN <| kmv rfl <| kfa rfl rfl ?_; refine kl1 rfl rfl rfl <| K.callM [(1000002, 502), (1000003, 503)] (w1 1000000 1000001 503 (((l ++ [sgB true]) ++ leB 8 lo) ++ leB 8 hi) ++ [(502, none)]) (p3) rfl rfl (by exact (And.intro ⟨_, rfl, rfl⟩ (And.intro ⟨_, rfl, rfl⟩ (And.intro ⟨_, rfl, (Box.ren_bytes _ _ _ _)⟩ trivial)))) (by exact (all_cons_true (all_cons_true rfl (all_cons_true rfl rfl)) (all_cons_true (all_cons_true rfl rfl) (all_cons_true bytes_inUse rfl)))) rfl rfl rfl rfl (by exact (.box rfl rfl (.box rfl rfl (.box rfl (Box.ren_bytes _ _ _ _) (.dead rfl .nil))))) .plain <| RunK.nil ?_)
    exact ⟨[(1000003, 503)], ⟨[], trivial, rfl⟩, (by repeat' (first | exact trivial | refine And.intro ⟨_, rfl, ?_⟩ ?_ | refine And.intro ⟨_, rfl⟩ ?_ | rfl | exact Box.ren_bytes _ _ _ _ | exact Box.ren_vals _ _ _ _ | exact Box.ren_mid rfl)), rfl, rfl⟩
set_option maxHeartbeats 3200000 in
theorem ePutIns (l : List UInt8) (x : Ins) (hx : smallI x) (hok : okI x = true) (hl : l.length < 700000000) : MSpec Tryz.prog X 138 [Lp 1000000, LOp x.op, LIn x] (w1 1000000 1000001 1000002 l) (.tup []) (w1 1000000 1000001 1000003 (l ++ encI x) ++ [(1000002, none)]) := by
  obtain ⟨h17, hgk, ha7, hb7⟩ := okI_facts hok
  have hk2 := hx.2.2.2
  obtain ⟨op, a, b, k⟩ := x
  simp only at h17 hgk ha7 hb7 hk2 ⊢
  have p1 := ePut_1 X l op (by omega) (by omega)
  have pa := ePut_1 X (l ++ [o8 op]) a (by omega) (by rw [List.length_append, List.length_singleton]; omega)
  have pb := ePut_1 X ((l ++ [o8 op]) ++ [o8 a]) b (by omega) (by rw [List.length_append, List.length_append, List.length_singleton, List.length_singleton]; omega)
  have pk := ePutNum X (l ++ [o8 op]) k hk2 (by rw [List.length_append, List.length_singleton]; omega)
  by_cases c1 : op = 1
  · subst c1
    rw [show encI ⟨1, a, b, k⟩ = o8 1 :: numX k from rfl, show l ++ o8 1 :: numX k = (l ++ [o8 1]) ++ numX k by simp, op_1]
    refine MSpec.intro Tryz.func138 rfl (by kernel_rfl) rfl rfl (by repeat' (first | refine all_cons_true ?_ ?_ | rfl | exact bytes_inUse | exact vals_inUse | exact mid_inUse rfl)) rfl rfl ?_
    intro C
    (refine LWP.seq <| rgN <| K.box rfl rfl rfl .plain <| K.box rfl rfl rfl .plain <| RunK.nil <| LWP.seq <| rgN <| kmv rfl <| kfa rfl rfl ?_; refine kl1 rfl rfl rfl <| K.callM [(1000003, 501)] (w1 1000000 1000001 501 (l ++ [o8 1]) ++ [(1000002, none)]) (p1) rfl rfl (by exact (And.intro ⟨_, rfl, rfl⟩ (And.intro ⟨_, rfl, rfl⟩ (And.intro ⟨_, rfl, (Box.ren_bytes _ _ _ _)⟩ trivial)))) (by exact (all_cons_true (all_cons_true rfl (all_cons_true rfl rfl)) (all_cons_true (all_cons_true rfl rfl) (all_cons_true bytes_inUse rfl)))) rfl rfl rfl rfl (by exact (.box rfl rfl (.box rfl rfl (.box rfl (Box.ren_bytes _ _ _ _) (.dead rfl .nil))))) .plain <| RunK.nil <| LWP.seq <| LWP.seq <| rgN <| kfa rfl rfl ?_; refine kl1 rfl rfl rfl <| RunK.nil <| LWP.condF rfl ?_; refine LWP.skip ?_; refine LWP.seq <| LWP.seq <| rgN <| kfa rfl rfl ?_; refine kl1 rfl rfl rfl <| RunK.nil <| LWP.condF rfl ?_; refine LWP.skip ?_; refine LWP.seq <| rgN <| kfa rfl rfl ?_; refine kl1 rfl rfl rfl <| RunK.nil <| LWP.condT rfl ?_; refine rgN <| kmv rfl <| kfa rfl rfl ?_; refine K.loadPart rfl rfl rfl (by exact nl3 rfl rfl rfl rfl) .plain ?_; refine K.callM [(1000002, 501), (1000003, 502)] (w1 1000000 1000001 502 ((l ++ [o8 1]) ++ numX k) ++ [(501, none)]) (pk) rfl rfl (by exact (And.intro ⟨_, rfl, rfl⟩ (And.intro ⟨_, rfl, rfl⟩ (And.intro ⟨_, rfl, (Box.ren_bytes _ _ _ _)⟩ trivial)))) (by exact (all_cons_true (all_cons_true rfl (all_cons_true rfl rfl)) (all_cons_true (all_cons_true rfl rfl) (all_cons_true bytes_inUse rfl)))) rfl rfl rfl rfl (by exact (.box rfl rfl (.box rfl rfl (.box rfl (Box.ren_bytes _ _ _ _) (.dead rfl .nil))))) .plain <| RunK.nil ?_)
    exact ⟨[(1000003, 502)], ⟨[], trivial, rfl⟩, (by repeat' (first | exact trivial | refine And.intro ⟨_, rfl, ?_⟩ ?_ | refine And.intro ⟨_, rfl⟩ ?_ | rfl | exact Box.ren_bytes _ _ _ _ | exact Box.ren_vals _ _ _ _ | exact Box.ren_mid rfl)), rfl, rfl⟩
  by_cases c2 : op = 2
  · subst c2
    rw [show encI ⟨2, a, b, k⟩ = [o8 2, o8 a, o8 b] from rfl, show l ++ [o8 2, o8 a, o8 b] = ((l ++ [o8 2]) ++ [o8 a]) ++ [o8 b] by simp, op_2]
    refine MSpec.intro Tryz.func138 rfl (by kernel_rfl) rfl rfl (by repeat' (first | refine all_cons_true ?_ ?_ | rfl | exact bytes_inUse | exact vals_inUse | exact mid_inUse rfl)) rfl rfl ?_
    intro C
    (refine LWP.seq <| rgN <| K.box rfl rfl rfl .plain <| K.box rfl rfl rfl .plain <| RunK.nil <| LWP.seq <| rgN <| kmv rfl <| kfa rfl rfl ?_; refine kl1 rfl rfl rfl <| K.callM [(1000003, 501)] (w1 1000000 1000001 501 (l ++ [o8 2]) ++ [(1000002, none)]) (p1) rfl rfl (by exact (And.intro ⟨_, rfl, rfl⟩ (And.intro ⟨_, rfl, rfl⟩ (And.intro ⟨_, rfl, (Box.ren_bytes _ _ _ _)⟩ trivial)))) (by exact (all_cons_true (all_cons_true rfl (all_cons_true rfl rfl)) (all_cons_true (all_cons_true rfl rfl) (all_cons_true bytes_inUse rfl)))) rfl rfl rfl rfl (by exact (.box rfl rfl (.box rfl rfl (.box rfl (Box.ren_bytes _ _ _ _) (.dead rfl .nil))))) .plain <| RunK.nil <| LWP.seq <| LWP.seq <| rgN <| kfa rfl rfl ?_; refine kl1 rfl rfl rfl <| RunK.nil <| LWP.condT rfl ?_; refine rgN <| kmv rfl <| kfa rfl rfl ?_; refine kl1 rfl rfl rfl <| K.callM [(1000002, 501), (1000003, 502)] (w1 1000000 1000001 502 ((l ++ [o8 2]) ++ [o8 a]) ++ [(501, none)]) (pa) rfl rfl (by exact (And.intro ⟨_, rfl, rfl⟩ (And.intro ⟨_, rfl, rfl⟩ (And.intro ⟨_, rfl, (Box.ren_bytes _ _ _ _)⟩ trivial)))) (by exact (all_cons_true (all_cons_true rfl (all_cons_true rfl rfl)) (all_cons_true (all_cons_true rfl rfl) (all_cons_true bytes_inUse rfl)))) rfl rfl rfl rfl (by exact (.box rfl rfl (.box rfl rfl (.box rfl (Box.ren_bytes _ _ _ _) (.dead rfl .nil))))) .plain <| RunK.nil <| LWP.seq <| LWP.seq <| rgN <| kfa rfl rfl ?_; refine kl1 rfl rfl rfl <| RunK.nil <| LWP.condT rfl ?_; refine rgN <| kmv rfl <| kfa rfl rfl ?_; refine kl1 rfl rfl rfl <| K.callM [(1000002, 502), (1000003, 503)] (w1 1000000 1000001 503 (((l ++ [o8 2]) ++ [o8 a]) ++ [o8 b]) ++ [(502, none)]) (pb) rfl rfl (by exact (And.intro ⟨_, rfl, rfl⟩ (And.intro ⟨_, rfl, rfl⟩ (And.intro ⟨_, rfl, (Box.ren_bytes _ _ _ _)⟩ trivial)))) (by exact (all_cons_true (all_cons_true rfl (all_cons_true rfl rfl)) (all_cons_true (all_cons_true rfl rfl) (all_cons_true bytes_inUse rfl)))) rfl rfl rfl rfl (by exact (.box rfl rfl (.box rfl rfl (.box rfl (Box.ren_bytes _ _ _ _) (.dead rfl .nil))))) .plain <| RunK.nil <| LWP.seq <| rgN <| kfa rfl rfl ?_; refine kl1 rfl rfl rfl <| RunK.nil <| LWP.condF rfl ?_; refine LWP.skip ?_)
    exact ⟨[(1000003, 503)], ⟨[], trivial, rfl⟩, (by repeat' (first | exact trivial | refine And.intro ⟨_, rfl, ?_⟩ ?_ | refine And.intro ⟨_, rfl⟩ ?_ | rfl | exact Box.ren_bytes _ _ _ _ | exact Box.ren_vals _ _ _ _ | exact Box.ren_mid rfl)), rfl, rfl⟩
  by_cases c3 : op = 3
  · subst c3
    rw [show encI ⟨3, a, b, k⟩ = [o8 3, o8 a] from rfl, show l ++ [o8 3, o8 a] = (l ++ [o8 3]) ++ [o8 a] by simp, op_3]
    refine MSpec.intro Tryz.func138 rfl (by kernel_rfl) rfl rfl (by repeat' (first | refine all_cons_true ?_ ?_ | rfl | exact bytes_inUse | exact vals_inUse | exact mid_inUse rfl)) rfl rfl ?_
    intro C
    (refine LWP.seq <| rgN <| K.box rfl rfl rfl .plain <| K.box rfl rfl rfl .plain <| RunK.nil <| LWP.seq <| rgN <| kmv rfl <| kfa rfl rfl ?_; refine kl1 rfl rfl rfl <| K.callM [(1000003, 501)] (w1 1000000 1000001 501 (l ++ [o8 3]) ++ [(1000002, none)]) (p1) rfl rfl (by exact (And.intro ⟨_, rfl, rfl⟩ (And.intro ⟨_, rfl, rfl⟩ (And.intro ⟨_, rfl, (Box.ren_bytes _ _ _ _)⟩ trivial)))) (by exact (all_cons_true (all_cons_true rfl (all_cons_true rfl rfl)) (all_cons_true (all_cons_true rfl rfl) (all_cons_true bytes_inUse rfl)))) rfl rfl rfl rfl (by exact (.box rfl rfl (.box rfl rfl (.box rfl (Box.ren_bytes _ _ _ _) (.dead rfl .nil))))) .plain <| RunK.nil <| LWP.seq <| LWP.seq <| rgN <| kfa rfl rfl ?_; refine kl1 rfl rfl rfl <| RunK.nil <| LWP.condT rfl ?_; refine rgN <| kmv rfl <| kfa rfl rfl ?_; refine kl1 rfl rfl rfl <| K.callM [(1000002, 501), (1000003, 502)] (w1 1000000 1000001 502 ((l ++ [o8 3]) ++ [o8 a]) ++ [(501, none)]) (pa) rfl rfl (by exact (And.intro ⟨_, rfl, rfl⟩ (And.intro ⟨_, rfl, rfl⟩ (And.intro ⟨_, rfl, (Box.ren_bytes _ _ _ _)⟩ trivial)))) (by exact (all_cons_true (all_cons_true rfl (all_cons_true rfl rfl)) (all_cons_true (all_cons_true rfl rfl) (all_cons_true bytes_inUse rfl)))) rfl rfl rfl rfl (by exact (.box rfl rfl (.box rfl rfl (.box rfl (Box.ren_bytes _ _ _ _) (.dead rfl .nil))))) .plain <| RunK.nil <| LWP.seq <| LWP.seq <| rgN <| kfa rfl rfl ?_; refine kl1 rfl rfl rfl <| RunK.nil <| LWP.condF rfl ?_; refine LWP.skip ?_; refine LWP.seq <| rgN <| kfa rfl rfl ?_; refine kl1 rfl rfl rfl <| RunK.nil <| LWP.condF rfl ?_; refine LWP.skip ?_)
    exact ⟨[(1000003, 502)], ⟨[], trivial, rfl⟩, (by repeat' (first | exact trivial | refine And.intro ⟨_, rfl, ?_⟩ ?_ | refine And.intro ⟨_, rfl⟩ ?_ | rfl | exact Box.ren_bytes _ _ _ _ | exact Box.ren_vals _ _ _ _ | exact Box.ren_mid rfl)), rfl, rfl⟩
  rw [show encI ⟨op, a, b, k⟩ = [o8 op] by unfold encI; simp only; rw [if_neg c1, if_neg c2, if_neg c3], op_no c1 c2 c3]
  refine MSpec.intro Tryz.func138 rfl (by kernel_rfl) rfl rfl (by repeat' (first | refine all_cons_true ?_ ?_ | rfl | exact bytes_inUse | exact vals_inUse | exact mid_inUse rfl)) rfl rfl ?_
  intro C
  (refine LWP.seq <| rgN <| K.box rfl rfl rfl .plain <| K.box rfl rfl rfl .plain <| RunK.nil <| LWP.seq <| rgN <| kmv rfl <| kfa rfl rfl ?_; refine kl1 rfl rfl rfl <| K.callM [(1000003, 501)] (w1 1000000 1000001 501 (l ++ [o8 op]) ++ [(1000002, none)]) (p1) rfl rfl (by exact (And.intro ⟨_, rfl, rfl⟩ (And.intro ⟨_, rfl, rfl⟩ (And.intro ⟨_, rfl, (Box.ren_bytes _ _ _ _)⟩ trivial)))) (by exact (all_cons_true (all_cons_true rfl (all_cons_true rfl rfl)) (all_cons_true (all_cons_true rfl rfl) (all_cons_true bytes_inUse rfl)))) rfl rfl rfl rfl (by exact (.box rfl rfl (.box rfl rfl (.box rfl (Box.ren_bytes _ _ _ _) (.dead rfl .nil))))) .plain <| RunK.nil <| LWP.seq <| LWP.seq <| rgN <| kfa rfl rfl ?_; refine kl1 rfl rfl rfl <| RunK.nil <| LWP.condF rfl ?_; refine LWP.skip ?_; refine LWP.seq <| LWP.seq <| rgN <| kfa rfl rfl ?_; refine kl1 rfl rfl rfl <| RunK.nil <| LWP.condF rfl ?_; refine LWP.skip ?_; refine LWP.seq <| rgN <| kfa rfl rfl ?_; refine kl1 rfl rfl rfl <| RunK.nil <| LWP.condF rfl ?_; refine LWP.skip ?_)
  exact ⟨[(1000003, 501)], ⟨[], trivial, rfl⟩, (by repeat' (first | exact trivial | refine And.intro ⟨_, rfl, ?_⟩ ?_ | refine And.intro ⟨_, rfl⟩ ?_ | rfl | exact Box.ren_bytes _ _ _ _ | exact Box.ren_vals _ _ _ _ | exact Box.ren_mid rfl)), rfl, rfl⟩
abbrev enSt (rad ad : Option Addr) (n rcap cap i : Nat) (B : List UInt8) (Y : Nat → Option Obj) : St :=
  ⟨[(0, Lx ad n cap), (6, Lp 18), (23, Lx rad n rcap), (24, Ln .i64 (n : Nat)), (25, Ln .i64 (i : Nat))], w1 18 601 500 B, Y⟩
set_option maxHeartbeats 6400000 in
theorem gEncode' (l : List Ins) (ad : Option Addr) (cap : Nat) (hin : InsIn X ad l) (hbig : l.length < 1152921504606846976) : PSpec Tryz.prog X 101 [Lx ad l.length cap] (.tup [Ss (encTX l), Sn .i64 (encErr l)]) := by
  have hR := tRowsOf X l ad cap hin hbig
  refine PSpec.intro Tryz.func101 rfl (by kernel_rfl) rfl rfl ?_
  intro C
  by_cases h : chkX l = 0
  · rw [(rs_ok h).1, (rs_ok h).2] at hR
    have h64 := (chkX_zero h).1
    have hall := chkX_ok h
    (refine LWP.seq <| rgN <| kas rfl <| kas rfl <| RunK.nil <| LWP.seq <| rgN <| kmv rfl <| K.callMp [(1000001, 500)] (.tup [.one (.slc 500 0 l.length 6), Sn .i64 0]) [(500, some ⟨0, [], .res (rowsR l)⟩)] (hR) rfl rfl (by exact trivial) rfl rfl rfl rfl rfl (by exact (.box rfl rfl .nil)) .plain <| kmv rfl <| kex rfl rfl <| kex rfl rfl <| kas rfl <| kas rfl ?_; refine RunK.nil <| LWP.seq <| LWP.seq <| rgN <| kmv rfl <| kne rfl rfl ((bne_eq_false_iff_eq.2 (by omega))) <| RunK.nil <| LWP.condF rfl ?_; refine LWP.skip ?_; refine LWP.seq ?_)
    refine LWP.le (σ' := ⟨[(4, .sv (.one (.slc 500 0 l.length 6))), (0, Lx ad l.length cap)], [(500, some ⟨0, [], .res (rowsR l)⟩)], X⟩) (Le.of (by exact ⟨rfl, rfl, trivial⟩) (by exact ⟨rfl, trivial⟩) (by exact rfl) (by exact rfl) (by repeat' (first | refine all_cons_true ?_ ?_ | rfl | exact bytes_inUse | exact vals_inUse | exact mid_inUse rfl))) ?_
    refine LWP.fixRes rfl rfl rfl fun ρ H rcap hRr hO _ _ => ?_
    obtain ⟨m1, m2⟩ := more_join hO
    have hrows := rows_fix hRr m2
    replace hin := hin.mono m1
    generalize joinM X H = Y at *
    have p1 := ePut_0 Y l.length (by omega)
    (refine rgN <| K.build rfl rfl (by exact rfl) (by exact nl2 rfl rfl rfl) .plain ?_; refine K.box rfl rfl rfl .plain <| kas rfl <| RunK.nil <| LWP.seq <| rgN <| kmv rfl <| kmv rfl <| K.lenX rfl SliceT.h rfl .plain ?_; refine K.callM [(1000000, 18), (1000001, 601), (1000002, 602)] (w1 18 601 602 [o8 (l.length : Nat)]) (p1) rfl rfl (by exact (And.intro ⟨_, rfl, rfl⟩ trivial)) (by exact (all_cons_true (all_cons_true rfl (all_cons_true rfl rfl)) rfl)) rfl rfl rfl rfl (by exact (.box rfl rfl (.box rfl rfl (.box rfl rfl .nil)))) .plain <| RunK.nil <| LWP.seq <| LWP.seq <| rgN <| kmv rfl <| K.lenX rfl SliceT.h rfl .plain ?_; refine kmv rfl <| RunK.nil <| LWP.block ?_)
    refine LWP.loop (fun m σ => ∃ i : Nat, i ≤ l.length ∧ m = l.length - i ∧ (∀ x ∈ l.take i, plainI x = true) ∧ σ = enSt (some ⟨ρ.1, 0, none⟩) ad l.length rcap cap i (o8 (l.length : Nat) :: encIs (l.take i)) Y) l.length
      ⟨enSt (some ⟨ρ.1, 0, none⟩) ad l.length rcap cap 0 (o8 (l.length : Nat) :: encIs (l.take 0)) Y, Le.ofR [(500, 602)] (by exact ⟨rfl, rfl, rfl, rfl, rfl, trivial⟩) (by repeat' (first | exact trivial | refine And.intro ⟨_, rfl, ?_⟩ ?_ | refine And.intro ⟨_, rfl⟩ ?_ | rfl | exact Box.ren_bytes _ _ _ _ | exact Box.ren_vals _ _ _ _ | exact Box.ren_mid rfl)) (by exact rfl) (by exact rfl) (by repeat' (first | refine all_cons_true ?_ ?_ | rfl | exact bytes_inUse | exact vals_inUse | exact mid_inUse rfl)) (by exact rfl) (by exact rfl), 0, Nat.zero_le _, rfl, fun x hx => absurd hx (by simp), rfl⟩ ?_
    rintro m σ ⟨i, hi, rfl, hpl, rfl⟩
    have hBl := encIs_len (l.take i)
    rw [List.length_take] at hBl
    by_cases hlt : i < l.length
    · obtain ⟨x, hx⟩ : ∃ x, l[i]? = some x := ⟨_, List.getElem?_eq_getElem hlt⟩
      have hmem := List.mem_of_getElem? hx
      have hsx := hin.small x hmem
      have hok := hall x hmem
      obtain ⟨rblk, roff, rarr, rel, rfr, dv, hrad, hXr, hszr, hcsr, hDv⟩ := hrows.at hx
      simp only [Option.some.injEq, Addr.mk.injEq] at hrad
      obtain ⟨rfl, rfl, _⟩ := hrad
      obtain ⟨g, gcaps, egv, _⟩ := id hDv
      subst egv
      obtain ⟨blk, off, arr, el, fr, rfl, hX, hsz, hcs, hop⟩ := hin.at hx
      have hio : off + Int.toNat (i : Int) * 6 = off + i * 6 := by simp
      have hior : 0 + Int.toNat (i : Int) * 6 = 0 + i * 6 := by simp
      have hin0 : 0 ≤ (i : Int) ∧ (i : Int) < (l.length : Nat) := by omega
      have hO := tOnly Y x hsx
      cases hp : plainI x with
      | false =>
        have he : encErr l = 1 := by
          unfold encErr
          rw [if_pos h, if_neg]
          intro ha
          have := List.all_eq_true.1 ha x hmem
          rw [hp] at this
          cases this
        rw [show encTX l = [] by unfold encTX; rw [he]; rfl, he]
        rw [hp] at hO
        (refine LWP.seq <| rgN <| klt rfl rfl (decide_eq_true (by omega)) <| RunK.nil <| LWP.seq <| LWP.condT rfl ?_; refine LWP.skip ?_; refine LWP.seq <| LWP.block <| LWP.seq <| rgN <| kmv rfl <| K.indexX rfl rfl SliceT.h hin0 hior .plain <| K.loadXagg rfl hXr (by kernel_rfl) hszr hcsr .plain <| K.alloc rfl .plain ?_; refine kas rfl <| K.storeAll rfl rfl rfl rfl rfl rfl .plain ?_; refine RunK.nil <| LWP.seq <| LWP.seq <| rgD mixed <| kfa rfl rfl ?_; refine K.loadPart rfl rfl rfl rfl .plain ?_; refine kmv rfl <| kmv rfl <| K.indexX rfl rfl SliceT.h hin0 hio .plain <| K.loadXagg rfl hX (by kernel_rfl) hsz hcs .plain <| kca rfl rfl hO <| K.not rfl rfl .plain <| RunK.nil <| rgA ?_; refine LWP.condT rfl ?_; refine LWP.seq <| rgN <| kas rfl <| kas rfl <| RunK.nil <| LWP.ret ?_)
        exact ⟨[_, _], ⟨rfl, rfl, trivial⟩, rfl⟩
      | true =>
        rw [hp] at hO
        have hnext : o8 (l.length : Nat) :: encIs (l.take (i + 1)) = (o8 (l.length : Nat) :: encIs (l.take i)) ++ encI x := by
          rw [List.take_add_one, hx, encIs_app]
          simp [encIs]
        have q := ePutIns Y (o8 (l.length : Nat) :: encIs (l.take i)) x hsx hok (by rw [List.length_cons]; omega)
        rw [← hnext] at q
        have hinc : IntKind.i64.wrap (((i : Nat) : Int) + 1) = ((i + 1 : Nat) : Int) := by rw [wrap_i64 (by omega)]; omega
        (refine LWP.seq <| rgN <| klt rfl rfl (decide_eq_true (by omega)) <| RunK.nil <| LWP.seq <| LWP.condT rfl ?_; refine LWP.skip ?_; refine LWP.seq <| LWP.block <| LWP.seq <| rgN <| kmv rfl <| K.indexX rfl rfl SliceT.h hin0 hior .plain <| K.loadXagg rfl hXr (by kernel_rfl) hszr hcsr .plain <| K.alloc rfl .plain ?_; refine kas rfl <| K.storeAll rfl rfl rfl rfl rfl rfl .plain ?_; refine RunK.nil <| LWP.seq <| LWP.seq <| rgD mixed <| kfa rfl rfl ?_; refine K.loadPart rfl rfl rfl rfl .plain ?_; refine kmv rfl <| kmv rfl <| K.indexX rfl rfl SliceT.h hin0 hio .plain <| K.loadXagg rfl hX (by kernel_rfl) hsz hcs .plain <| kca rfl rfl hO <| K.not rfl rfl .plain <| RunK.nil <| rgA ?_; refine LWP.condF rfl ?_; refine LWP.skip ?_; refine rgD mixed <| kmv rfl <| kfa rfl rfl ?_; refine K.loadPart rfl rfl rfl rfl .plain ?_; refine kmv rfl <| kmv rfl <| K.indexX rfl rfl SliceT.h hin0 hio .plain <| K.loadXagg rfl hX (by kernel_rfl) hsz hcs .plain <| K.callM [(1000000, 18), (1000001, 601), (1000002, 500), (1000003, 605)] (w1 18 601 605 (o8 (l.length : Nat) :: encIs (l.take (i + 1))) ++ [(500, none)]) (q) rfl rfl (by exact (And.intro ⟨_, rfl, rfl⟩ (And.intro ⟨_, rfl, rfl⟩ (And.intro ⟨_, rfl, (Box.ren_bytes _ _ _ _)⟩ trivial)))) (by exact (all_cons_true (all_cons_true rfl (all_cons_true rfl rfl)) (all_cons_true (all_cons_true rfl rfl) (all_cons_true (all_cons_true rfl bytes_inUse) rfl)))) rfl rfl rfl rfl (by exact (.box rfl rfl (.box rfl rfl (.box rfl (Box.ren_bytes _ _ _ _) (.dead rfl .nil))))) .plain <| RunK.nil <| rgA ?_; refine rgN <| kad rfl rfl hinc <| kmv rfl <| RunK.nil ?_)
        exact ⟨_, enSt (some ⟨ρ.1, 0, none⟩) (some ⟨blk, off, none⟩) l.length rcap cap (i + 1) (o8 (l.length : Nat) :: encIs (l.take (i + 1))) Y, by omega, Le.ofR [(500, 605)] (by exact ⟨rfl, rfl, rfl, rfl, rfl, trivial⟩) (by repeat' (first | exact trivial | refine And.intro ⟨_, rfl, ?_⟩ ?_ | refine And.intro ⟨_, rfl⟩ ?_ | rfl | exact Box.ren_bytes _ _ _ _ | exact Box.ren_vals _ _ _ _ | exact Box.ren_mid rfl)) (by exact rfl) (by exact rfl) (by repeat' (first | refine all_cons_true ?_ ?_ | rfl | exact bytes_inUse | exact vals_inUse | exact mid_inUse rfl)) (by exact rfl) (by exact rfl), i + 1, by omega, rfl, (fun y hy => by
          rw [List.take_add_one, hx] at hy
          rcases List.mem_append.1 hy with hy | hy
          · exact hpl y hy
          · simp only [Option.toList_some, List.mem_singleton] at hy; rw [hy]; exact hp), rfl⟩
    · have e : i = l.length := by omega
      subst e
      rw [List.take_length] at hpl
      have he : encErr l = 0 := by
        unfold encErr
        rw [if_pos h, if_pos (List.all_eq_true.2 hpl)]
      rw [show encTX l = o8 (l.length : Nat) :: encIs l by unfold encTX; rw [if_pos he]; rfl, he, List.take_length]
      have q := String_1 Y (o8 (l.length : Nat) :: encIs l)
      (refine LWP.seq <| rgN <| klt rfl rfl (decide_eq_false (by omega)) <| RunK.nil <| LWP.seq <| LWP.condF rfl ?_; refine LWP.exit <| LWP.seq <| rgN <| kmv rfl <| K.callM [(1000000, 18), (1000001, 601), (1000002, 500)] (w1 18 601 500 (o8 (l.length : Nat) :: encIs l)) (q) rfl rfl (by exact (And.intro ⟨_, rfl, rfl⟩ (And.intro ⟨_, rfl, rfl⟩ (And.intro ⟨_, rfl, (Box.ren_bytes _ _ _ _)⟩ trivial)))) (by exact (all_cons_true (all_cons_true rfl (all_cons_true rfl rfl)) (all_cons_true (all_cons_true rfl rfl) (all_cons_true (all_cons_true rfl bytes_inUse) rfl)))) rfl rfl rfl rfl (by exact (.box rfl rfl (.box rfl rfl (.box rfl (Box.ren_bytes _ _ _ _) .nil)))) .plain <| kas rfl <| kas rfl <| RunK.nil <| LWP.ret ?_)
      exact ⟨[_, _], ⟨rfl, rfl, trivial⟩, rfl⟩
  · rw [(rs_no h).1, (rs_no h).2] at hR
    have he : encErr l = chkX l := if_neg h
    rw [show encTX l = [] by unfold encTX; rw [he, if_neg h], he]
    (refine LWP.seq <| rgN <| kas rfl <| kas rfl <| RunK.nil <| LWP.seq <| rgN <| kmv rfl <| K.callM [] [] (hR) rfl rfl (by exact trivial) rfl rfl rfl rfl rfl (by exact .nil) .plain <| kmv rfl <| kex rfl rfl <| kex rfl rfl <| kas rfl <| kas rfl ?_; refine RunK.nil <| LWP.seq <| LWP.seq <| rgN <| kmv rfl <| kne rfl rfl (r := true) (bne_iff_ne.2 h) <| RunK.nil <| LWP.condT rfl ?_; refine LWP.seq <| rgN <| kmv rfl <| kas rfl <| kas rfl <| RunK.nil <| LWP.ret ?_)
    exact ⟨[_, _], ⟨rfl, rfl, trivial⟩, rfl⟩
end Go.Proofs.YtopiioklkkiedaaGreatDoor
end
section
namespace Go.Proofs.YtopiioklkkiedaaGreatDoor
open Go Go.Lg Go.Lg.Fml Go.Lg.Fld Go.Lg.Arith
set_option maxRecDepth 100000
def eS : List UInt8 × Bool → UInt8 × List UInt8 × Bool
  | (c :: t, false) => (c, t, false)
  | (l, _) => (0, l, true)
def eW : List UInt8 × Bool → Nat × List UInt8 × Bool
  | (l, b) => if b = false ∧ 8 ≤ l.length then (le (l.take 8), l.drop 8, false) else (0, l, true)
def eN (x : List UInt8 × Bool) : (Nm × Bool) × List UInt8 × Bool :=
  if 1 < (eS x).1.toNat then (((false, 0), false), (eS x).2)
  else (((decide ((eS x).1.toNat = 1), (((eW (eS x).2).1 + 18446744073709551616 * (eW (eW (eS x).2).2).1 : Nat) : Int)), true), (eW (eW (eS x).2).2).2)
def Lss (x y : List UInt8 × Bool) : Prop := y.1.length ≤ x.1.length ∧ (x.2 = true → y.2 = true)
variable (X : Nat → Option Obj)
end Go.Proofs.YtopiioklkkiedaaGreatDoor
end
section
namespace Go.Proofs.YtopiioklkkiedaaGreatDoor
open Go Go.Lg Go.Lg.Fml Go.Lg.Fld Go.Lg.Arith
set_option maxRecDepth 100000
variable (X : Nat → Option Obj)
abbrev usSt (ad : Option Addr) (n cap i : Nat) (q : List Ins) (r : Bool) (Y : Nat → Option Obj) : St :=
  ⟨[(0, Lx ad n cap), (3, .sv (.one (.slc 500 0 q.length 6))), (7, Lx ad n cap), (8, Ln .i64 (n : Nat)), (9, Ln .i64 (i : Nat))], [(500, some ⟨88, (inssV q).map .val, r⟩)], Y⟩
theorem uses_take {l : List Ins} {i : Nat} {x : Ins} (hx : l[i]? = some x) : usesX (l.take (i + 1)) = if (x.op == 2 || x.op == 3) = true then usesX (l.take i) ++ [x] else usesX (l.take i) := by
  unfold usesX
  rw [List.take_add_one, hx, List.filter_append]
  simp only [Option.toList_some, List.filter_cons, List.filter_nil]
  split <;> simp
theorem uses_le (l : List Ins) : (usesX l).length ≤ l.length := List.length_filter_le _ _
set_option maxHeartbeats 6400000 in
theorem gUses' (l : List Ins) (ad : Option Addr) (cap : Nat) (hin : InsIn X ad l) (hl : l.length ≤ 1000) : MSpec Tryz.prog X 140 [Lx ad l.length cap] [] (.sv (.one (.slc 1000001 0 (usesX l).length 6))) [(1000001, some ⟨88, (inssV (usesX l)).map .val, true⟩)] := by
  refine MSpec.intro Tryz.func140 rfl (by kernel_rfl) rfl (by exact (by repeat' (first | refine all_cons_true ?_ ?_ | rfl | exact bytes_inUse | exact vals_inUse | exact mid_inUse rfl))) (by exact (by repeat' (first | refine all_cons_true ?_ ?_ | rfl | exact bytes_inUse | exact vals_inUse | exact mid_inUse rfl))) rfl rfl ?_
  intro C
  refine LWP.ends ?_
  (refine LWP.seq <| rgN <| kas rfl <| RunK.nil <| LWP.seq <| rgN <| K.buildSlc (zs := []) (sz := 6) (e := 88) (by kernel_rfl) rfl rfl rfl rfl rfl rfl .plain <| kas rfl <| RunK.nil <| LWP.seq <| LWP.seq <| rgN <| kmv rfl <| K.lenX rfl SliceT.h rfl .plain ?_; refine kmv rfl <| RunK.nil <| LWP.block ?_)
  refine LWP.loop (fun m σ => ∃ (i : Nat) (r : Bool), i ≤ l.length ∧ m = l.length - i ∧ σ = usSt ad l.length cap i (usesX (l.take i)) r X) l.length
    ⟨usSt ad l.length cap 0 (usesX (l.take 0)) false X, Le.ofR [(500, 6)] (by exact ⟨rfl, rfl, rfl, rfl, rfl, trivial⟩) (by repeat' (first | exact trivial | refine And.intro ⟨_, rfl, ?_⟩ ?_ | refine And.intro ⟨_, rfl⟩ ?_ | rfl | exact Box.ren_bytes _ _ _ _ | exact Box.ren_vals _ _ _ _ | exact Box.ren_mid rfl)) (by exact rfl) (by exact rfl) (by repeat' (first | refine all_cons_true ?_ ?_ | rfl | exact bytes_inUse | exact vals_inUse | exact mid_inUse rfl)) (by exact rfl) (by exact rfl), 0, false, by omega, by omega, rfl⟩ ?_
  rintro m σ ⟨i, r, hi, rfl, rfl⟩
  by_cases hlt : i < l.length
  · obtain ⟨x, hx⟩ : ∃ x, l[i]? = some x := ⟨_, List.getElem?_eq_getElem hlt⟩
    obtain ⟨blk, off, arr, el, fr, rfl, hX, hsz, hcs, hop⟩ := hin.at hx
    have hio : off + Int.toNat (i : Int) * 6 = off + i * 6 := by simp
    have hin0 : 0 ≤ (i : Int) ∧ (i : Int) < (l.length : Nat) := by omega
    have hut := uses_take hx
    have hul := uses_le (l.take i)
    rw [List.length_take] at hul
    have hinc : IntKind.i64.wrap (((i : Nat) : Int) + 1) = ((i + 1 : Nat) : Int) := by rw [wrap_i64 (by omega)]; omega
    by_cases h2 : x.op = 2
    · rw [if_pos (by rw [beq_iff_eq.2 h2]; rfl)] at hut
      generalize usesX (l.take i) = q at *
      have hcl := inssV_len q
      have hnc : (inssV q).map CV.val ++ (insV x).map CV.val = (inssV (q ++ [x])).map CV.val := inssV_snoc q x rfl
      have hnl : q.length + 1 = (q ++ [x]).length := by rw [List.length_append]; rfl
      (refine LWP.seq <| rgN <| klt rfl rfl (decide_eq_true (by omega)) <| RunK.nil <| LWP.seq <| LWP.condT rfl ?_; refine LWP.skip ?_; refine LWP.seq <| LWP.block <| LWP.seq <| rgN <| K.indexX rfl rfl SliceT.h hin0 hio .plain <| K.loadXagg rfl hX (by kernel_rfl) hsz hcs .plain <| K.alloc rfl .plain ?_; refine K.storeAll rfl rfl rfl rfl rfl rfl .plain ?_; refine RunK.nil <| LWP.seq <| rgN <| kfa rfl rfl ?_; refine kl1 rfl rfl rfl <| keq rfl rfl (r := true) (beq_iff_eq.2 h2) <| kmv rfl <| RunK.passed rfl rfl rfl <| RunK.passed rfl rfl rfl <| RunK.passed rfl rfl rfl <| kpt rfl rfl <| RunK.nil <| LWP.condT rfl ?_; refine rgN <| kmv rfl <| K.loadAll rfl rfl rfl .plain ?_; refine K.buildSlc (zs := [Value.int .i64 0, .int .i64 0, .int .i64 0, .bool false, .int .u64 0, .int .u64 0]) (sz := 6) (e := 88) (cs' := (insV x).map .val) (by kernel_rfl) rfl rfl rfl rfl rfl rfl .plain <| K.appendSlc (by_ := 48) (e2 := 88) (l2 := (insV x).map .val) (nl := (q ++ [x]).length) (nc := (inssV (q ++ [x])).map .val) rfl rfl hcl rfl rfl (Nat.le_refl _) rfl rfl (by kernel_rfl) (by kernel_rfl) (by omega) (by omega) rfl hnl hnc .plain <| kas rfl <| RunK.nil <| rgN <| kad rfl rfl hinc <| kmv rfl <| RunK.nil ?_)
      exact ⟨_, usSt (some ⟨blk, off, none⟩) l.length cap (i + 1) (q ++ [x]) true X, by omega, Le.ofR [(500, 24)] (by exact ⟨rfl, rfl, rfl, rfl, rfl, trivial⟩) (by repeat' (first | exact trivial | refine And.intro ⟨_, rfl, ?_⟩ ?_ | refine And.intro ⟨_, rfl⟩ ?_ | rfl | exact Box.ren_bytes _ _ _ _ | exact Box.ren_vals _ _ _ _ | exact Box.ren_mid rfl)) (by exact rfl) (by exact rfl) (by repeat' (first | refine all_cons_true ?_ ?_ | rfl | exact bytes_inUse | exact vals_inUse | exact mid_inUse rfl)) (by exact rfl) (by exact rfl), i + 1, true, by omega, rfl, by rw [hut]⟩
    · by_cases h3 : x.op = 3
      · rw [if_pos (by rw [beq_iff_eq.2 h3, Bool.or_true])] at hut
        generalize usesX (l.take i) = q at *
        have hcl := inssV_len q
        have hnc : (inssV q).map CV.val ++ (insV x).map CV.val = (inssV (q ++ [x])).map CV.val := inssV_snoc q x rfl
        have hnl : q.length + 1 = (q ++ [x]).length := by rw [List.length_append]; rfl
        (refine LWP.seq <| rgN <| klt rfl rfl (decide_eq_true (by omega)) <| RunK.nil <| LWP.seq <| LWP.condT rfl ?_; refine LWP.skip ?_; refine LWP.seq <| LWP.block <| LWP.seq <| rgN <| K.indexX rfl rfl SliceT.h hin0 hio .plain <| K.loadXagg rfl hX (by kernel_rfl) hsz hcs .plain <| K.alloc rfl .plain ?_; refine K.storeAll rfl rfl rfl rfl rfl rfl .plain ?_; refine RunK.nil <| LWP.seq <| rgN <| kfa rfl rfl ?_; refine kl1 rfl rfl rfl <| keq rfl rfl (r := false) (beq_eq_false_iff_ne.2 h2) <| kmv rfl <| K.fieldAddr rfl rfl (.taken rfl rfl) ?_; refine K.loadOne rfl rfl rfl (.taken rfl rfl) ?_; refine K.eql rfl rfl (r := true) (beq_iff_eq.2 h3) (.taken rfl rfl) ?_; refine kpf rfl rfl <| RunK.nil <| LWP.condT rfl ?_; refine rgN <| kmv rfl <| K.loadAll rfl rfl rfl .plain ?_; refine K.buildSlc (zs := [Value.int .i64 0, .int .i64 0, .int .i64 0, .bool false, .int .u64 0, .int .u64 0]) (sz := 6) (e := 88) (cs' := (insV x).map .val) (by kernel_rfl) rfl rfl rfl rfl rfl rfl .plain <| K.appendSlc (by_ := 48) (e2 := 88) (l2 := (insV x).map .val) (nl := (q ++ [x]).length) (nc := (inssV (q ++ [x])).map .val) rfl rfl hcl rfl rfl (Nat.le_refl _) rfl rfl (by kernel_rfl) (by kernel_rfl) (by omega) (by omega) rfl hnl hnc .plain <| kas rfl <| RunK.nil <| rgN <| kad rfl rfl hinc <| kmv rfl <| RunK.nil ?_)
        exact ⟨_, usSt (some ⟨blk, off, none⟩) l.length cap (i + 1) (q ++ [x]) true X, by omega, Le.ofR [(500, 24)] (by exact ⟨rfl, rfl, rfl, rfl, rfl, trivial⟩) (by repeat' (first | exact trivial | refine And.intro ⟨_, rfl, ?_⟩ ?_ | refine And.intro ⟨_, rfl⟩ ?_ | rfl | exact Box.ren_bytes _ _ _ _ | exact Box.ren_vals _ _ _ _ | exact Box.ren_mid rfl)) (by exact rfl) (by exact rfl) (by repeat' (first | refine all_cons_true ?_ ?_ | rfl | exact bytes_inUse | exact vals_inUse | exact mid_inUse rfl)) (by exact rfl) (by exact rfl), i + 1, true, by omega, rfl, by rw [hut]⟩
      · rw [if_neg (by rw [beq_eq_false_iff_ne.2 h2, beq_eq_false_iff_ne.2 h3]; decide)] at hut
        generalize usesX (l.take i) = q at *
        (refine LWP.seq <| rgN <| klt rfl rfl (decide_eq_true (by omega)) <| RunK.nil <| LWP.seq <| LWP.condT rfl ?_; refine LWP.skip ?_; refine LWP.seq <| LWP.block <| LWP.seq <| rgN <| K.indexX rfl rfl SliceT.h hin0 hio .plain <| K.loadXagg rfl hX (by kernel_rfl) hsz hcs .plain <| K.alloc rfl .plain ?_; refine K.storeAll rfl rfl rfl rfl rfl rfl .plain ?_; refine RunK.nil <| LWP.seq <| rgN <| kfa rfl rfl ?_; refine kl1 rfl rfl rfl <| keq rfl rfl (r := false) (beq_eq_false_iff_ne.2 h2) <| kmv rfl <| K.fieldAddr rfl rfl (.taken rfl rfl) ?_; refine K.loadOne rfl rfl rfl (.taken rfl rfl) ?_; refine K.eql rfl rfl (r := false) (beq_eq_false_iff_ne.2 h3) (.taken rfl rfl) ?_; refine kpf rfl rfl <| RunK.nil <| LWP.condF rfl ?_; refine LWP.skip ?_; refine rgN <| kad rfl rfl hinc <| kmv rfl <| RunK.nil ?_)
        exact ⟨_, usSt (some ⟨blk, off, none⟩) l.length cap (i + 1) q r X, by omega, Le.of (by exact ⟨rfl, rfl, rfl, rfl, rfl, trivial⟩) (by exact ⟨rfl, trivial⟩) (by exact rfl) (by exact rfl) (by repeat' (first | refine all_cons_true ?_ ?_ | rfl | exact bytes_inUse | exact vals_inUse | exact mid_inUse rfl)), i + 1, r, by omega, rfl, by rw [hut]⟩
  · have e : i = l.length := by omega
    subst e
    rw [List.take_length]
    (refine LWP.seq <| rgN <| klt rfl rfl (decide_eq_false (by omega)) <| RunK.nil <| LWP.seq <| LWP.condF rfl ?_; refine LWP.exit <| LWP.seq <| rgN <| kmv rfl <| kas rfl <| RunK.nil <| LWP.ret ?_)
    refine Leads.le (σ' := ⟨[(2, .sv (.one (.slc 500 0 (usesX l).length 6)))], [(500, some ⟨88, (inssV (usesX l)).map .val, r⟩)], X⟩) (Le.of (by exact ⟨rfl, trivial⟩) (by exact ⟨rfl, trivial⟩) (by exact rfl) (by exact rfl) (by repeat' (first | refine all_cons_true ?_ ?_ | rfl | exact bytes_inUse | exact vals_inUse | exact mid_inUse rfl))) ?_
    refine Leads.le Le.loose (Leads.done ?_)
    exact ⟨[(1000001, 500)], ⟨[_], ⟨rfl, trivial⟩, rfl⟩, (by repeat' (first | exact trivial | refine And.intro ⟨_, rfl, ?_⟩ ?_ | refine And.intro ⟨_, rfl⟩ ?_ | rfl | exact Box.ren_bytes _ _ _ _ | exact Box.ren_vals _ _ _ _ | exact Box.ren_mid rfl)), rfl, rfl⟩
end Go.Proofs.YtopiioklkkiedaaGreatDoor
end
section
namespace Go.Proofs.YtopiioklkkiedaaGreatDoor
open Go Go.Lg Go.Lg.Fml Go.Lg.Fld Go.Lg.Arith
set_option maxRecDepth 100000
variable (X : Nat → Option Obj)
theorem gCheck (l : List Ins) (ad : Option Addr) (cap : Nat) (hin : InsIn X ad l) (hl : l.length < 1152921504606846976) : PSpec Tryz.prog X 139 [Lx ad l.length cap] (Ln .i64 (chkX l)) := by
  exact gCheck' X l ad cap hin hl
theorem gEval (l : List Ins) (ad : Option Addr) (cap : Nat) (hin : InsIn X ad l) (hbig : l.length < 1152921504606846976) (fad : Option Addr) (fcap : Nat) (fs : List (List Nm)) (hfs : FssIn X fad fs) (hfl : fs.length < 4611686018427387904) (hrl : ∀ r ∈ fs, r.length < 4611686018427387904) (hf2 : ∀ r ∈ fs, ∀ u ∈ r, In2 u.2) (at_ : Int) (hat : -9223372036854775808 ≤ at_ ∧ at_ < 9223372036854775808) :
    PSpec Tryz.prog X 70 [Lx ad l.length cap, LEnv fad fs.length fcap at_] (exR (evX l fs at_)) := by
  exact gEval' X l ad cap hin hbig fad fcap fs at_ ⟨hfs, hfl, hrl, hat⟩ hf2
end Go.Proofs.YtopiioklkkiedaaGreatDoor
end
section
namespace Go.Proofs.YtopiioklkkiedaaGreatDoor
open Go Go.Lg Go.Lg.Fml Go.Lg.Fld Go.RowKit Go.ChangeShapes Go.WideShapes Go.Joins
set_option maxRecDepth 100000
section
variable {H : Type} {enc : TypeId × Value → H} {w : World}
theorem cellsPg : Tryz.prog.cellsOf 36 = 3 := by kernel_rfl
end
end Go.Proofs.YtopiioklkkiedaaGreatDoor
end
section
namespace Go.Proofs.YtopiioklkkiedaaGreatDoor
open Go Go.Lg Go.Lg.Fml Go.Lg.Fld Go.RowKit Go.ChangeShapes Go.WideShapes Go.Joins
set_option maxRecDepth 100000
section
variable {H : Type} {enc : TypeId × Value → H} {w : World}
theorem open_inss_w {fuel : Nat} {lv : List Value} {xx : DataW H × List MemPlace} (h : DataW.trod enc Tryz.prog w 0 (fun _ => true) true fuel 90 lv = some xx) (hw : Light Tryz.prog 90 xx.1) :
    ∃ (ad : Option Addr) (cap : Nat) (l : List Ins), lv = [.slice ad l.length cap] ∧ l.length ≤ 4398046511104 ∧ InsIn (fun b => w.heap[b]?) ad l := by
  obtain ⟨ad, cap, rows, rfl, hb, h1, h2, h3, h4⟩ := open_rows_w (e := 88) (sz := 6) (by kernel_rfl) (by kernel_rfl) (by decide) h hw
  obtain ⟨l, rfl, h5⟩ := map_of (f := insV) (q := smallI) (vs := rows) (fun u hu => by
    obtain ⟨hlen, n, x, hx, _⟩ := h4 u hu
    obtain ⟨y0, y1, y2, y3, n', _, _, g0, g1, g2, g3⟩ := trod_struct4 (t := 88) Tryz.underlying88 hx
    obtain ⟨c0, c1, c2, c3, c4, c5, rfl⟩ : ∃ c0 c1 c2 c3 c4 c5, u = [c0, c1, c2, c3, c4, c5] := by
      match u, hlen with
      | [c0, c1, c2, c3, c4, c5], _ => exact ⟨c0, c1, c2, c3, c4, c5, rfl⟩
    obtain ⟨k0, e0, _, wa0⟩ := DataW.trod_int (k := .i64) (by kernel_rfl) g0
    obtain ⟨k1, e1, _, wa1⟩ := DataW.trod_int (k := .i64) (by kernel_rfl) g1
    obtain ⟨k2, e2, _, wa2⟩ := DataW.trod_int (k := .i64) (by kernel_rfl) g2
    obtain ⟨z0, z1, z2, m', _, _, j0, j1, j2⟩ := Deep.trod_struct3 (t := 86) Tryz.underlying86 g3
    obtain ⟨b, e3, _⟩ := DataW.trod_bool (by kernel_rfl) j0
    obtain ⟨x, e4, _, wa4⟩ := DataW.trod_int (k := .u64) (by kernel_rfl) j1
    obtain ⟨y, e5, _, wa5⟩ := DataW.trod_int (k := .u64) (by kernel_rfl) j2
    have q0 : c0 = .int .i64 k0 := by simpa using (show ([c0, c1, c2, c3, c4, c5].drop 0).take 1 = [.int .i64 k0] from e0)
    have q1 : c1 = .int .i64 k1 := by simpa using (show ([c0, c1, c2, c3, c4, c5].drop 1).take 1 = [.int .i64 k1] from e1)
    have q2 : c2 = .int .i64 k2 := by simpa using (show ([c0, c1, c2, c3, c4, c5].drop 2).take 1 = [.int .i64 k2] from e2)
    have q3 : c3 = .bool b := by simpa using (show ((([c0, c1, c2, c3, c4, c5].drop 3).take 3).drop 0).take 1 = [.bool b] from e3)
    have q4 : c4 = .int .u64 x := by simpa using (show ((([c0, c1, c2, c3, c4, c5].drop 3).take 3).drop 1).take 1 = [.int .u64 x] from e4)
    have q5 : c5 = .int .u64 y := by simpa using (show ((([c0, c1, c2, c3, c4, c5].drop 3).take 3).drop 2).take 1 = [.int .u64 y] from e5)
    subst q0 q1 q2 q3 q4 q5
    have b0 := bounds_i64 wa0
    have b1 := bounds_i64 wa1
    have b2 := bounds_i64 wa2
    have b4 := bounds_u64 wa4
    have b5 := bounds_u64 wa5
    refine ⟨⟨k0, k1, k2, (b, x * 18446744073709551616 + y)⟩, ?_, by show -9223372036854775808 ≤ k0 ∧ k0 < 9223372036854775808; omega, by show -9223372036854775808 ≤ k1 ∧ k1 < 9223372036854775808; omega, by show -9223372036854775808 ≤ k2 ∧ k2 < 9223372036854775808; omega, by show 0 ≤ x * 18446744073709551616 + y; omega, by show x * 18446744073709551616 + y < _; omega⟩
    unfold insV
    show _ = [Value.int .i64 k0, .int .i64 k1, .int .i64 k2, .bool b, .int .u64 ((x * 18446744073709551616 + y) / 18446744073709551616), .int .u64 ((x * 18446744073709551616 + y) % 18446744073709551616)]
    rw [show (x * 18446744073709551616 + y) / 18446744073709551616 = x by omega, show (x * 18446744073709551616 + y) % 18446744073709551616 = y by omega])
  exact ⟨ad, cap, l, by rw [List.length_map], by rw [List.length_map, show Tryz.prog.bytesOf 88 = 48 by kernel_rfl, show reachBytes = 140737488351232 by decide] at hb; omega, ⟨h3, h5⟩⟩
end
end Go.Proofs.YtopiioklkkiedaaGreatDoor
end
section
namespace Go.Proofs.YtopiioklkkiedaaGreatDoor
open Go Go.Lg Go.Lg.Fml Go.Lg.Fld Go.Lg.Arith
def findE (fs : List Fl) (f : Fl) (x : Ins) : Int :=
  if x.op = 2 ∨ x.op = 3 then (match fs[x.a.toNat]? with
    | none => 3
    | some g => if (x.op = 2 ∧ g.count ≤ x.b) ∨ (x.op = 3 ∧ g.count < f.count) then 3 else if (g.kind = 10) = (f.kind = 10) then 0 else 8)
  else 0
def atE {α : Type} (g : α → Int) (l : List α) (i : Nat) : Int := match l[i]? with | some x => g x | none => 0
theorem atE_at {α : Type} {g : α → Int} {l : List α} {i : Nat} {x : α} (h : l[i]? = some x) : atE g l i = g x := by unfold atE; rw [h]
def seqE {α : Type} (g : α → Int) (l : List α) : Int := firstE (atE g l) 0 l.length
theorem seqE_zero {α : Type} {g : α → Int} {l : List α} (h : seqE g l = 0) : ∀ x ∈ l, g x = 0 := fun x hx => by
  obtain ⟨i, hi⟩ := List.mem_iff_getElem?.1 hx
  have := firstE_zero h i (Nat.zero_le _) (by have := (List.getElem?_eq_some_iff.1 hi).1; omega)
  rw [atE_at hi] at this; exact this
def refE (f : Fl) : List Ins → Int
  | [x] => if f.kind = 10 ∧ (x.op = 4 ∨ (x.op = 1 ∧ x.k ≠ (false, 0))) then 8 else 0
  | _ => if f.kind = 10 then 8 else 0
def fmE (fs : List Fl) (f : Fl) (l : List Ins) : Int := if chkX l = 0 then (if seqE (findE fs f) l = 0 then refE f l else seqE (findE fs f) l) else chkX l
def ruE (fs gs : List Fl) (r : Rl) : Int := if r.old = 0 then 0 else if r.ex.length = gs.length then seqE (fun q : Fl × List Ins => fmE fs q.1 q.2) (gs.zip r.ex) else 4
def findC (cs : List Cp) (id : Int) : Option Cp := cs.find? fun c => c.id == id
def nwE (a : Sc) (q : Rl × Cp) : Int := if q.1.nw = q.2.id ∧ (q.1.old = 0 ∨ (findC a.cs q.1.old).isSome) then 0 else 6
def flC (a : Sc) (id : Int) : List Fl := match findC a.cs id with | some c => c.fs | none => []
def ruC (a : Sc) (q : Rl × Cp) : Int := ruE (flC a q.1.old) q.2.fs q.1
def ckE (a b : Sc) (p : Pg) : Int :=
  if chkE a = 0 then (if chkE b = 0 then (if chkP p = 0 then (if p.va = a.ver ∧ p.vb = b.ver ∧ p.va < p.vb then (if p.rs.length = b.cs.length then (if seqE (nwE a) (p.rs.zip b.cs) = 0 then seqE (ruC a) (p.rs.zip b.cs) else 6) else 6) else 7) else chkP p) else chkE b) else chkE a
end Go.Proofs.YtopiioklkkiedaaGreatDoor
end
section
namespace Go.Lg.Sg
open Go Go.Lg
def idsTo (a n : Nat) : List Int := ((List.range n).filter fun i => a.testBit (i + 1)).map fun i => ((i + 1 : Nat) : Int)
def idsL (a : Nat) : List Int := idsTo a 24
def okJ (id : Int) : Bool := decide (1 ≤ id) && decide (id ≤ 24)
theorem okI_iff {id : Int} : okJ id = true ↔ 1 ≤ id ∧ id ≤ 24 := by unfold okJ; simp
def hasB (a : Nat) (id : Int) : Bool := okJ id && a.testBit id.toNat
theorem mem_ids {a n : Nat} {id : Int} : id ∈ idsTo a n ↔ 1 ≤ id ∧ id ≤ n ∧ a.testBit id.toNat = true := by
  unfold idsTo
  rw [List.mem_map]
  constructor
  · rintro ⟨i, hi, rfl⟩
    obtain ⟨h1, h2⟩ := List.mem_filter.1 hi
    have := List.mem_range.1 h1
    exact ⟨by omega, by omega, by rw [show ((i + 1 : Nat) : Int).toNat = i + 1 from rfl]; exact h2⟩
  · rintro ⟨h1, h2, h3⟩
    refine ⟨id.toNat - 1, List.mem_filter.2 ⟨List.mem_range.2 (by omega), ?_⟩, by omega⟩
    rw [show id.toNat - 1 + 1 = id.toNat by omega]
    exact h3
def badI (i : Nat) : Bool := decide (i < 1) || decide (24 < i)
def isB (a : Nat) : Bool := (List.range 32).all fun i => !(a.testBit i && badI i)
theorem isB_iff {a : Nat} : isB a = true ↔ ∀ i, i < 32 → a.testBit i = true → 1 ≤ i ∧ i ≤ 24 := by
  unfold isB badI
  rw [List.all_eq_true]
  constructor
  · intro h i hi hb
    have := h i (List.mem_range.2 hi)
    rw [hb] at this
    simp at this
    omega
  · intro h i hi
    have hi := List.mem_range.1 hi
    cases hb : a.testBit i with
    | false => rfl
    | true =>
      obtain ⟨h1, h2⟩ := h i hi hb
      rw [decide_eq_false (by omega), decide_eq_false (by omega)]
      rfl
end Go.Lg.Sg
namespace Go.Proofs.YtopiioklkkiedaaGreatDoor
open Go Go.Lg Go.Lg.Fld Go.Lg.Sg
set_option maxRecDepth 100000
variable (X : Nat → Option Obj)
end Go.Proofs.YtopiioklkkiedaaGreatDoor
end
section
namespace Go.Lg.Sg
open Go Go.Lg
def txStep (s : List UInt8 × Bool) (x : Int) : List UInt8 × Bool := (s.1 ++ (if s.2 = true then [43] else []) ++ Lib.itoa x, true)
def txF (l : List Int) : List UInt8 × Bool := l.foldl txStep ([], false)
def ofN (ids : List Int) : Nat := ids.foldl (fun n id => n ||| 2 ^ id.toNat) 0
end Go.Lg.Sg
namespace Go.Proofs.YtopiioklkkiedaaGreatDoor
open Go Go.Lg Go.Lg.Fld Go.Lg.Sg
set_option maxRecDepth 100000
variable (X : Nat → Option Obj)
end Go.Proofs.YtopiioklkkiedaaGreatDoor
end
section
namespace Go.Lg.Sg
open Go Go.Lg
def digS (n : Int) (c : UInt8) : Option Int := if c.toNat < 48 ∨ 57 < c.toNat ∨ n = 0 ∨ 99 < n ∨ (n < 0 ∧ c.toNat = 48) then none else some ((if n < 0 then 0 else n) * 10 + ((c.toNat : Int) - 48))
def sepS (q : List Int × Int) : Option (List Int × Int) := if q.2 < 1 ∨ 24 < q.2 ∨ (q.1.getLast?.any fun y => decide (q.2 ≤ y)) = true then none else some (q.1 ++ [q.2], -1)
def chS (q : List Int × Int) (c : UInt8) : Option (List Int × Int) := if c = 43 then sepS q else (digS q.2 c).map fun n => (q.1, n)
def runS (q : List Int × Int) (s : List UInt8) : Option (List Int × Int) := s.foldlM chS q
def parseA (s : List UInt8) : Option Nat := if s = [45] then some 0 else ((runS ([], -1) s).bind sepS).map fun q => ofN q.1
def rising (l : List Int) : Prop := l.Pairwise (fun x y => x < y)
def preT (ids : List Int) : List UInt8 := (txF ids).1 ++ if ids = [] then [] else [43]
def digT (n : Int) : List UInt8 := if n < 0 then [] else Lib.itoa n
structure Rd (p : List UInt8) (q : List Int × Int) : Prop where
  text : p = preT q.1 ++ digT q.2
  ids : ∀ y ∈ q.1, 1 ≤ y ∧ y ≤ 24
  rise : rising q.1
  num : q.2 = -1 ∨ (1 ≤ q.2 ∧ q.2 ≤ 999)
end Go.Lg.Sg
end
section
namespace Go.Lg.Sg
open Go Go.Lg Go.Lg.Fld
def withN (a : Nat) (id : Int) : Nat := if okJ id = true then a ||| 2 ^ id.toNat else a
def withinB (a b : Nat) : Bool := (idsL a).all (hasB b)
theorem with_bit {a : Nat} {id : Int} (j : Nat) : (withN a id).testBit j = (a.testBit j || (okJ id && decide (id.toNat = j))) := by
  unfold withN
  by_cases h : okJ id = true
  · rw [if_pos h, Nat.testBit_or, Nat.testBit_two_pow, h, Bool.true_and]
  · rw [if_neg h, show okJ id = false by simpa using h, Bool.false_and, Bool.or_false]
theorem lt32_of_bits {a : Nat} (h : ∀ j, 32 ≤ j → a.testBit j = false) : a < 4294967296 := Nat.lt_pow_two_of_testBit (n := 32) _ h
theorem bits32 {a : Nat} (h : a < 4294967296) {j : Nat} (hj : 32 ≤ j) : a.testBit j = false := Nat.testBit_lt_two_pow (Nat.lt_of_lt_of_le h (show 2 ^ 32 ≤ 2 ^ j from Nat.pow_le_pow_right (by decide) hj))
end Go.Lg.Sg
end
section
namespace Go.Proofs.YtopiioklkkiedaaGreatDoor
open Go Go.Lg Go.Lg.Fml Go.Lg.Fld Go.Lg.Arith
abbrev Sp := Fl × List Ins × Nat
def cutN : List Fl → List Nm → List (List Nm)
  | [], _ => []
  | f :: t, ns => ns.take f.n :: cutN t (ns.drop f.n)
def fldS (f : Fl) (c : List Ins) (n : Nat) : List Sp := (List.range n).map fun k => (f, c, k)
def stepsN : List Fl → List (List Ins) → List Sp
  | f :: t, c :: u => fldS f c f.n ++ stepsN t u
  | _, _ => []
def okV : Except Int Nm → Nm | .ok v => v | .error _ => (false, 0)
def erV : Except Int Nm → Int | .ok _ => 0 | .error e => e
def stepV (fs : List (List Nm)) (q : Sp) : Nm := okV (evX q.2.1 fs q.2.2)
def stepE (fs : List (List Nm)) (q : Sp) : Int := if erV (evX q.2.1 fs q.2.2) = 0 then (if fitB q.1.kind (stepV fs q).1 (stepV fs q).2 = true then 0 else 3) else erV (evX q.2.1 fs q.2.2)
def valE (a b : List Fl) (r : Rl) (ns : List Nm) : Int :=
  if fitErr a ns = 0 then (if layErr b = 0 then (if r.old = 0 then 7 else if ruE a b r = 0 then seqE (stepE (cutN a ns)) (stepsN b r.ex) else ruE a b r) else layErr b) else fitErr a ns
def valN (a b : List Fl) (r : Rl) (ns : List Nm) : List Nm := (stepsN b r.ex).map (stepV (cutN a ns))
def rowE (a b : List Fl) (r : Rl) (s : List UInt8) : Int := if unpErr a s = 0 then valE a b r ((unpZ a s).map qn) else unpErr a s
def rowN (a b : List Fl) (r : Rl) (s : List UInt8) : List UInt8 := if rowE a b r s = 0 then packB b (valN a b r ((unpZ a s).map qn)) else []
def sigN (rs : List Rl) (s : Nat) : Nat := rs.foldl (fun n r => if Sg.hasB s r.old = true then Sg.withN n r.nw else n) 0
abbrev Sq := Rl × Cp × Pt
def partsOf (r : Rl) (c : Cp) (ps : List Pt) : List Sq := (ps.filter fun p => p.comp == r.old).map fun p => (r, c, p)
def prS : List Rl → List Cp → List Pt → List Sq
  | r :: t, c :: u, ps => partsOf r c ps ++ prS t u ps
  | _, _, _ => []
def pqE (a : Sc) (q : Sq) : Int := valE (flC a q.2.2.comp) q.2.1.fs q.1 q.2.2.val
def psE (a b : Sc) (p : Pg) (ps : List Pt) : Int := if ckE a b p = 0 then (if partsE a.cs ps = 0 then seqE (pqE a) (prS p.rs b.cs ps) else partsE a.cs ps) else ckE a b p
theorem fldS_succ (f : Fl) (c : List Ins) (k : Nat) : fldS f c (k + 1) = fldS f c k ++ [(f, c, k)] := by unfold fldS; rw [List.range_succ, List.map_append]; rfl
theorem fldS_zero (f : Fl) (c : List Ins) : fldS f c 0 = [] := rfl
theorem fldS_len (f : Fl) (c : List Ins) (n : Nat) : (fldS f c n).length = n := by unfold fldS; rw [List.length_map, List.length_range]
theorem fldS_split (f : Fl) (c : List Ins) : ∀ {n k : Nat}, k < n → ∃ post, fldS f c n = fldS f c k ++ (f, c, k) :: post
  | n + 1, k, h => by
    by_cases e : k = n
    · subst e; exact ⟨[], fldS_succ f c k⟩
    · obtain ⟨post, hp⟩ := fldS_split f c (n := n) (k := k) (by omega)
      exact ⟨post ++ [(f, c, n)], by rw [fldS_succ, hp]; simp⟩
theorem steps_snoc : ∀ {gs : List Fl} {ex : List (List Ins)} {i : Nat} {f : Fl} {c : List Ins}, gs[i]? = some f → ex[i]? = some c → stepsN (gs.take (i + 1)) (ex.take (i + 1)) = stepsN (gs.take i) (ex.take i) ++ fldS f c f.n
  | g :: gs, d :: ex, 0, f, c, h1, h2 => by
    simp only [List.getElem?_cons_zero, Option.some.injEq] at h1 h2
    subst h1 h2
    simp [stepsN]
  | g :: gs, d :: ex, i + 1, f, c, h1, h2 => by
    simp only [List.getElem?_cons_succ] at h1 h2
    simp only [List.take_succ_cons, stepsN]
    rw [steps_snoc h1 h2, List.append_assoc]
  | [], _, _, _, _, h, _ => by simp at h
  | _ :: _, [], _, _, _, _, h => by simp at h
theorem steps_split : ∀ {gs : List Fl} {ex : List (List Ins)} {i : Nat} {f : Fl} {c : List Ins}, gs[i]? = some f → ex[i]? = some c → ∃ post, stepsN gs ex = stepsN (gs.take i) (ex.take i) ++ (fldS f c f.n ++ post)
  | g :: gs, d :: ex, 0, f, c, h1, h2 => by
    simp only [List.getElem?_cons_zero, Option.some.injEq] at h1 h2
    subst h1 h2
    exact ⟨stepsN gs ex, rfl⟩
  | g :: gs, d :: ex, i + 1, f, c, h1, h2 => by
    simp only [List.getElem?_cons_succ] at h1 h2
    obtain ⟨post, hp⟩ := steps_split h1 h2
    refine ⟨post, ?_⟩
    simp only [List.take_succ_cons, stepsN]
    rw [hp, List.append_assoc]
  | [], _, _, _, _, h, _ => by simp at h
  | _ :: _, [], _, _, _, _, h => by simp at h
theorem steps_at {gs : List Fl} {ex : List (List Ins)} {i k : Nat} {f : Fl} {c : List Ins} (h1 : gs[i]? = some f) (h2 : ex[i]? = some c) (hk : k < f.n) : ∃ post, stepsN gs ex = (stepsN (gs.take i) (ex.take i) ++ fldS f c k) ++ (f, c, k) :: post := by
  obtain ⟨p1, e1⟩ := steps_split h1 h2
  obtain ⟨p2, e2⟩ := fldS_split f c hk
  exact ⟨p2 ++ p1, by rw [e1, e2]; simp⟩
theorem seqE_cons' {α : Type} {g : α → Int} {x : α} {t : List α} : seqE g (x :: t) = if g x = 0 then seqE g t else g x := by
  have key : ∀ (f : Nat → Int) (n i : Nat), firstE f (i + 1) n = firstE (fun j => f (j + 1)) i n := by
    intro f n
    induction n with
    | zero => intro i; rfl
    | succ n ih =>
      intro i
      show (if f (i + 1) = 0 then firstE f (i + 1 + 1) n else f (i + 1)) = (if f (i + 1) = 0 then firstE (fun j => f (j + 1)) (i + 1) n else f (i + 1))
      rw [ih (i + 1)]
  show (if atE g (x :: t) 0 = 0 then firstE (atE g (x :: t)) (0 + 1) t.length else atE g (x :: t) 0) = _
  rw [key]
  rfl
theorem seqE_app {α : Type} {g : α → Int} : ∀ {l m : List α}, seqE g (l ++ m) = if seqE g l = 0 then seqE g m else seqE g l
  | [], m => by rw [List.nil_append, show seqE g ([] : List α) = 0 from rfl, if_pos rfl]
  | x :: l, m => by
    rw [List.cons_append, seqE_cons', seqE_cons', seqE_app]
    by_cases h : g x = 0
    · rw [if_pos h, if_pos h]
    · rw [if_neg h, if_neg h, if_neg h]
theorem seqE_hit {α : Type} {g : α → Int} {l pre post : List α} {x : α} (h : l = pre ++ x :: post) (h0 : seqE g pre = 0) (hx : g x ≠ 0) : seqE g l = g x := by
  rw [h, seqE_app, if_pos h0, seqE_cons', if_neg hx]
theorem seqE_snoc {α : Type} {g : α → Int} {l : List α} {x : α} (h0 : seqE g l = 0) (hx : g x = 0) : seqE g (l ++ [x]) = 0 := by
  rw [seqE_app, if_pos h0, seqE_cons', if_pos hx]; rfl
end Go.Proofs.YtopiioklkkiedaaGreatDoor
end
section
namespace Go.Proofs.YtopiioklkkiedaaGreatDoor
open Go Go.Lg Go.Lg.Fml Go.Lg.Fld Go.Lg.Arith
theorem elems_kinds : ∀ (b : List Fl) (ex : List (List Ins)) (a : Nat), ex.length = b.length → (elemsAt a b).map Prod.fst = (stepsN b ex).map fun q => q.1.kind
  | [], [], _, _ => rfl
  | f :: t, c :: u, a, h => by
    simp only [List.length_cons] at h
    have ih := elems_kinds t u (roundUp a f.w + f.w * f.n) (by omega)
    simp only [elemsAt, stepsN, List.map_append, ih]
    congr 1
    unfold fldS
    rw [List.map_map, List.map_map]
    rfl
  | [], _ :: _, _, h => by simp at h
  | _ :: _, [], _, h => by simp at h
theorem steps_len {b : List Fl} {ex : List (List Ins)} (h : ex.length = b.length) : (stepsN b ex).length = (elemsAt 0 b).length := by
  have := congrArg List.length (elems_kinds b ex 0 h)
  rw [List.length_map, List.length_map] at this
  exact this.symm
theorem stepE_zero {fs : List (List Nm)} {q : Sp} (h : stepE fs q = 0) : erV (evX q.2.1 fs q.2.2) = 0 ∧ fitB q.1.kind (stepV fs q).1 (stepV fs q).2 = true := by
  unfold stepE at h
  by_cases h1 : erV (evX q.2.1 fs q.2.2) = 0
  · rw [if_pos h1] at h
    by_cases h2 : fitB q.1.kind (stepV fs q).1 (stepV fs q).2 = true
    · exact ⟨h1, h2⟩
    · rw [if_neg h2] at h; cases h
  · rw [if_neg h1] at h; exact absurd h h1
theorem val_fit {b : List Fl} {ex : List (List Ins)} {fs : List (List Nm)} (hb : layErr b = 0) (hl : ex.length = b.length) (h : seqE (stepE fs) (stepsN b ex) = 0) : fitErr b ((stepsN b ex).map (stepV fs)) = 0 := by
  unfold fitErr
  rw [if_pos hb, if_pos (by rw [List.length_map, steps_len hl]), if_pos]
  unfold fitAll
  rw [List.all_eq_true]
  intro p hp
  obtain ⟨i, hi⟩ := List.mem_iff_getElem?.1 hp
  obtain ⟨h1, h2⟩ := List.getElem?_zip_eq_some.1 hi
  rw [List.getElem?_map] at h2
  cases hq : (stepsN b ex)[i]? with
  | none => rw [hq] at h2; cases h2
  | some q =>
    rw [hq] at h2
    simp only [Option.map_some, Option.some.injEq] at h2
    have hk := congrArg (fun l => l[i]?) (elems_kinds b ex 0 hl)
    simp only [List.getElem?_map, h1, hq, Option.map_some, Option.some.injEq] at hk
    have := (stepE_zero (seqE_zero h q (List.mem_of_getElem? hq))).2
    rw [h2, ← hk] at this
    exact this
theorem ruE_len {a b : List Fl} {r : Rl} (h : ruE a b r = 0) (h0 : r.old ≠ 0) : r.ex.length = b.length := by
  unfold ruE at h
  rw [if_neg h0] at h
  by_cases e : r.ex.length = b.length
  · exact e
  · rw [if_neg e] at h; cases h
theorem valE_zero {a b : List Fl} {r : Rl} {ns : List Nm} (h : valE a b r ns = 0) : fitErr a ns = 0 ∧ layErr b = 0 ∧ r.old ≠ 0 ∧ ruE a b r = 0 ∧ seqE (stepE (cutN a ns)) (stepsN b r.ex) = 0 := by
  unfold valE at h
  by_cases h1 : fitErr a ns = 0
  · rw [if_pos h1] at h
    by_cases h2 : layErr b = 0
    · rw [if_pos h2] at h
      by_cases h3 : r.old = 0
      · rw [if_pos h3] at h; cases h
      · rw [if_neg h3] at h
        by_cases h4 : ruE a b r = 0
        · rw [if_pos h4] at h; exact ⟨h1, h2, h3, h4, h⟩
        · rw [if_neg h4] at h; exact absurd h h4
    · rw [if_neg h2] at h; exact absurd h h2
  · rw [if_neg h1] at h; exact absurd h h1
theorem valN_fit {a b : List Fl} {r : Rl} {ns : List Nm} (h : valE a b r ns = 0) : fitErr b (valN a b r ns) = 0 := by
  obtain ⟨_, h2, h3, h4, h5⟩ := valE_zero h
  exact val_fit h2 (ruE_len h4 h3) h5
theorem chkRs_pair : ∀ {l : List Rl} {last : Int}, chkRs last l = 0 → l.Pairwise (fun r q => r.nw < q.nw) ∧ ∀ r ∈ l, last < r.nw ∧ (1 ≤ r.nw ∧ r.nw ≤ 24) ∧ (0 ≤ r.old ∧ r.old ≤ 24)
  | [], _, _ => ⟨List.Pairwise.nil, fun r hr => by cases hr⟩
  | r :: t, last, h => by
    unfold chkRs at h
    by_cases e : chkR r last = 0
    · rw [if_pos e] at h
      obtain ⟨g1, g2, g3, _⟩ := chkR_zero e
      obtain ⟨i1, i2⟩ := chkRs_pair h
      refine ⟨List.pairwise_cons.2 ⟨fun q hq => (i2 q hq).1, i1⟩, fun q hq => ?_⟩
      rcases List.mem_cons.1 hq with rfl | hq
      · exact ⟨g3, g1, g2⟩
      · obtain ⟨j1, j2⟩ := i2 q hq
        exact ⟨by omega, j2⟩
    · rw [if_neg e] at h; exact absurd h e
theorem chkP_rs {p : Pg} (h : chkP p = 0) : chkRs 0 p.rs = 0 := by
  unfold chkP at h
  split at h
  · exact h
  · cases h
section
variable {a b : Sc} {p : Pg} {ps : List Pt} (h : psE a b p ps = 0)
include h
end
theorem sigN_bit (rs : List Rl) (s j : Nat) : (sigN rs s).testBit j = rs.any fun r => Sg.hasB s r.old && (Sg.okJ r.nw && decide (r.nw.toNat = j)) := by
  unfold sigN
  suffices H : ∀ (l : List Rl) (n : Nat), (l.foldl (fun n r => if Sg.hasB s r.old = true then Sg.withN n r.nw else n) n).testBit j = (n.testBit j || l.any fun r => Sg.hasB s r.old && (Sg.okJ r.nw && decide (r.nw.toNat = j))) by
    rw [H, Nat.zero_testBit, Bool.false_or]
  intro l
  induction l with
  | nil => intro n; simp
  | cons r t ih =>
    intro n
    rw [List.foldl_cons, ih, List.any_cons, ← Bool.or_assoc]
    congr 1
    cases hs : Sg.hasB s r.old with
    | true => rw [if_pos rfl, Sg.with_bit, Bool.true_and]
    | false => rw [if_neg (by decide), Bool.false_and, Bool.or_false]
end Go.Proofs.YtopiioklkkiedaaGreatDoor
end
section
namespace Go.Proofs.YtopiioklkkiedaaGreatDoor
open Go Go.Lg Go.Lg.Fml Go.Lg.Fld Go.Lg.Arith
theorem cutN_len : ∀ {fs : List Fl} {ns : List Nm}, (cutN fs ns).length = fs.length
  | [], _ => rfl
  | f :: t, ns => by show (cutN t (ns.drop f.n)).length + 1 = t.length + 1; rw [cutN_len]
theorem cut_at : ∀ {fs : List Fl} {ns : List Nm} {i : Nat} {f : Fl}, fs[i]? = some f → (cutN fs ns)[i]? = some ((ns.drop (sumC (fs.take i))).take f.n)
  | g :: t, ns, 0, f, h => by
    simp only [List.getElem?_cons_zero, Option.some.injEq] at h
    subst h
    rfl
  | g :: t, ns, i + 1, f, h => by
    simp only [List.getElem?_cons_succ] at h
    have := cut_at (ns := ns.drop g.n) h
    show (cutN t (ns.drop g.n))[i]? = _
    rw [this, List.drop_drop]
    have e : sumC ((g :: t).take (i + 1)) = g.n + sumC (t.take i) := by simp [sumC]
    rw [e]
  | [], _, _, _, h => by simp at h
theorem cut_mem {fs : List Fl} {ns : List Nm} {l : List Nm} (h : l ∈ cutN fs ns) : ∀ u ∈ l, u ∈ ns := fun u hu => by
  obtain ⟨i, hi⟩ := List.mem_iff_getElem?.1 h
  have hl := (List.getElem?_eq_some_iff.1 hi).1
  rw [cutN_len] at hl
  rw [cut_at (List.getElem?_eq_getElem hl)] at hi
  cases hi
  exact List.mem_of_mem_drop (List.mem_of_mem_take hu)
theorem sum_take {fs : List Fl} {i : Nat} {f : Fl} (h : fs[i]? = some f) : sumC (fs.take i) + f.n ≤ sumC fs := by
  have e : sumC fs = sumC (fs.take (i + 1)) + sumC (fs.drop (i + 1)) := by
    unfold sumC
    rw [← List.sum_append_nat, ← List.map_append, List.take_append_drop]
  rw [e, take_snoc h, sum_snoc]
  omega
theorem fit_all {fs : List Fl} {ns : List Nm} (h : fitErr fs ns = 0) : layErr fs = 0 ∧ ns.length = sumC fs ∧ ∀ (j : Nat) (e : Int × Nat) (n : Nm), (elemsAt 0 fs)[j]? = some e → ns[j]? = some n → fitB e.1 n.1 n.2 = true := by
  unfold fitErr at h
  by_cases h1 : layErr fs = 0
  · rw [if_pos h1] at h
    by_cases h2 : (elemsAt 0 fs).length = ns.length
    · rw [if_pos h2] at h
      by_cases h3 : fitAll (elemsAt 0 fs) ns = true
      · refine ⟨h1, by rw [← h2, elems_sum], fun j e n he hn => ?_⟩
        unfold fitAll at h3
        exact List.all_eq_true.1 h3 (e, n) (List.mem_of_getElem? (by rw [List.getElem?_zip_eq_some]; exact ⟨he, hn⟩))
      · rw [if_neg h3] at h; cases h
    · rw [if_neg h2] at h; cases h
  · rw [if_neg h1] at h; exact absurd h h1
theorem mem_steps : ∀ {gs : List Fl} {ex : List (List Ins)} {q : Sp}, q ∈ stepsN gs ex → ∃ i : Nat, gs[i]? = some q.1 ∧ ex[i]? = some q.2.1 ∧ q.2.2 < q.1.n
  | f :: gs, c :: ex, q, h => by
    simp only [stepsN, List.mem_append] at h
    rcases h with h | h
    · unfold fldS at h
      obtain ⟨k, hk, rfl⟩ := List.mem_map.1 h
      exact ⟨0, rfl, rfl, List.mem_range.1 hk⟩
    · obtain ⟨i, h1, h2, h3⟩ := mem_steps h
      exact ⟨i + 1, h1, h2, h3⟩
  | [], _, _, h => by simp [stepsN] at h
  | _ :: _, [], _, h => by simp [stepsN] at h
section
variable {c : Cp} (hn : firstE (fldE c.fs) 0 c.fs.length = 0) {ns : List Nm} (h : fitErr c.fs ns = 0)
include hn h
end
section
variable {a b : Sc} (hc : b.cs = a.cs) (ha : chkE a = 0) (hb : chkE b = 0) (hv : a.ver < b.ver)
include hc ha hb hv
end
end Go.Proofs.YtopiioklkkiedaaGreatDoor
end
section
namespace Go.Lg.Sg
open Go Go.Lg Go.Lg.Fld
def allN : Nat := 33554430
theorem allN_bit (j : Nat) : allN.testBit j = (decide (1 ≤ j) && decide (j ≤ 24)) := by
  by_cases h : j < 32
  · have hd : ∀ k : Fin 32, allN.testBit k.val = (decide (1 ≤ k.val) && decide (k.val ≤ 24)) := by decide
    exact hd ⟨j, h⟩
  · rw [Nat.testBit_lt_two_pow (Nat.lt_of_lt_of_le (show allN < 2 ^ 32 by decide) (Nat.pow_le_pow_right (by decide) (by omega))), decide_eq_false (show ¬ j ≤ 24 by omega), Bool.and_false]
theorem nz_bit {x : Nat} : x ≠ 0 ↔ ∃ j, x.testBit j = true := by
  constructor
  · intro h
    by_cases he : ∃ j, x.testBit j = true
    · exact he
    · refine absurd (Nat.eq_of_testBit_eq fun i => ?_) h
      rw [Nat.zero_testBit]
      cases hb : x.testBit i with
      | false => rfl
      | true => exact absurd ⟨i, hb⟩ he
  · rintro ⟨j, hj⟩ rfl
    rw [Nat.zero_testBit] at hj
    cases hj
theorem ne0_is {x : Nat} {b : Bool} (h : b = true ↔ ∃ j, x.testBit j = true) : ((((x : Nat) : Int) != 0)) = b := by
  rw [Bool.eq_iff_iff, bne_iff_ne, h, ← nz_bit]
  omega
theorem eq0_is {x : Nat} {b : Bool} (h : b = false ↔ ∃ j, x.testBit j = true) : ((((x : Nat) : Int) == 0)) = b := by
  rw [← nz_bit] at h
  by_cases hx : x = 0
  · subst hx
    cases b with
    | true => rfl
    | false => exact absurd rfl (h.1 rfl)
  · rw [h.2 hx, beq_eq_false_iff_ne.2 (by omega)]
theorem andN_32 {a b : Nat} (ha : a < 4294967296) (hb : b < 4294967296) : bits .and .u32 ((a : Nat) : Int) ((b : Nat) : Int) = ((a &&& b : Nat) : Int) := u32_and_nat _ _ ha hb
theorem orN_32 {a b : Nat} (ha : a < 4294967296) (hb : b < 4294967296) : bits .or .u32 ((a : Nat) : Int) ((b : Nat) : Int) = ((a ||| b : Nat) : Int) := u32_or_nat _ _ ha hb
theorem notN_bit (a b i : Nat) : (a ^^^ (a &&& b)).testBit i = (a.testBit i && !b.testBit i) := by
  rw [Nat.testBit_xor, Nat.testBit_and]
  cases a.testBit i <;> cases b.testBit i <;> rfl
theorem notN_lt {a b : Nat} (ha : a < 4294967296) : a ^^^ (a &&& b) < 4294967296 := lt32_of_bits fun j hj => by
  rw [notN_bit, bits32 ha hj, Bool.false_and]
theorem notN_bits {a b : Nat} (ha : a < 4294967296) : (BitVec.ofNat 32 a &&& ~~~ BitVec.ofNat 32 b).toNat = a ^^^ (a &&& b) := by
  apply Nat.eq_of_testBit_eq
  intro i
  rw [BitVec.testBit_toNat, BitVec.getLsbD_and, BitVec.getLsbD_not, BitVec.getLsbD_ofNat, BitVec.getLsbD_ofNat, notN_bit]
  by_cases hi : i < 32
  · simp [hi]
  · have h := bits32 ha (show 32 ≤ i by omega)
    simp [hi, h]
theorem notN_32 {a b : Nat} (ha : a < 4294967296) : bits .andNot .u32 ((a : Nat) : Int) ((b : Nat) : Int) = ((a ^^^ (a &&& b) : Nat) : Int) := by
  have h1 : bits .andNot .u32 ((a : Nat) : Int) ((b : Nat) : Int) = IntKind.u32.wrap (((BitVec.ofNat 32 a &&& ~~~ BitVec.ofNat 32 b).toNat : Nat) : Int) := rfl
  rw [h1, notN_bits ha]
  have := notN_lt (b := b) ha
  exact wrap_u32 ⟨Int.natCast_nonneg _, by omega⟩
def bitN (id : Int) : Nat := if okJ id = true then 2 ^ id.toNat else 0
theorem bitN_bit (id : Int) (j : Nat) : (bitN id).testBit j = (okJ id && decide (id.toNat = j)) := by
  unfold bitN
  by_cases h : okJ id = true
  · rw [if_pos h, h, Nat.testBit_two_pow, Bool.true_and]
  · rw [if_neg h, show okJ id = false by simpa using h, Nat.zero_testBit, Bool.false_and]
theorem bitN_lt (id : Int) : bitN id < 4294967296 := lt32_of_bits fun j hj => by
  rw [bitN_bit]
  by_cases ho : okJ id = true
  · have := okI_iff.1 ho
    rw [decide_eq_false (by omega), Bool.and_false]
  · rw [show okJ id = false by simpa using ho, Bool.false_and]
theorem shl_bit {id : Int} (h : okJ id = true) : IntKind.u32.wrap (1 * 2 ^ (min id.toNat IntKind.u32.bits)) = ((bitN id : Nat) : Int) := by
  have hi := okI_iff.1 h
  have hm : min id.toNat IntKind.u32.bits = id.toNat := by
    show min id.toNat 32 = id.toNat
    omega
  have hb := bitN_lt id
  have he : bitN id = 2 ^ id.toNat := if_pos h
  rw [he] at hb ⊢
  rw [hm, Int.one_mul, show ((2 : Int) ^ id.toNat) = ((2 ^ id.toNat : Nat) : Int) by rw [Int.natCast_pow]; rfl]
  exact wrap_u32 ⟨Int.natCast_nonneg _, by omega⟩
theorem is_bits {a : Nat} (ha : a < 4294967296) : ((((a ^^^ (a &&& allN) : Nat) : Int)) == 0) = isB a := by
  refine eq0_is ?_
  constructor
  · intro h
    have hn : ¬ isB a = true := by rw [h]; decide
    rw [isB_iff] at hn
    simp only [Classical.not_forall] at hn
    obtain ⟨i, hi, hb, hno⟩ := hn
    refine ⟨i, ?_⟩
    rw [notN_bit, hb, allN_bit]
    by_cases h1 : 1 ≤ i
    · rw [decide_eq_false (show ¬ i ≤ 24 by omega), Bool.and_false]; rfl
    · rw [decide_eq_false h1]; rfl
  · rintro ⟨j, hj⟩
    rw [notN_bit, allN_bit, Bool.and_eq_true] at hj
    cases hb : isB a with
    | false => rfl
    | true =>
      rw [isB_iff] at hb
      have hj32 : j < 32 := by
        by_cases h : j < 32
        · exact h
        · rw [bits32 ha (by omega)] at hj; cases hj.1
      obtain ⟨h1, h2⟩ := hb j hj32 hj.1
      rw [decide_eq_true h1, decide_eq_true h2] at hj
      cases hj.2
theorem has_bits (a : Nat) (id : Int) : ((((a &&& bitN id : Nat) : Int)) != 0) = hasB a id := by
  refine ne0_is ?_
  unfold hasB
  constructor
  · intro h
    rw [Bool.and_eq_true] at h
    exact ⟨id.toNat, by rw [Nat.testBit_and, bitN_bit, h.1, h.2, decide_eq_true rfl]; rfl⟩
  · rintro ⟨j, hj⟩
    rw [Nat.testBit_and, bitN_bit, Bool.and_eq_true, Bool.and_eq_true] at hj
    obtain ⟨h1, h2, h3⟩ := hj
    rw [h2, of_decide_eq_true h3, h1]; rfl
theorem with_bits (a : Nat) (id : Int) : a ||| bitN id = withN a id := by
  unfold bitN withN
  by_cases h : okJ id = true
  · rw [if_pos h, if_pos h]
  · rw [if_neg h, if_neg h, Nat.or_zero]
theorem within_bits (a b : Nat) : (((((a &&& allN) ^^^ ((a &&& allN) &&& b) : Nat) : Int)) == 0) = withinB a b := by
  refine eq0_is ?_
  unfold withinB
  rw [List.all_eq_false]
  constructor
  · rintro ⟨x, hx, hn⟩
    obtain ⟨h1, h2, h3⟩ := mem_ids.1 hx
    refine ⟨x.toNat, ?_⟩
    have ho : okJ x = true := okI_iff.2 ⟨h1, by omega⟩
    unfold hasB at hn
    rw [ho, Bool.true_and] at hn
    rw [notN_bit, Nat.testBit_and, allN_bit, h3, decide_eq_true (show 1 ≤ x.toNat by omega), decide_eq_true (show x.toNat ≤ 24 by omega), show b.testBit x.toNat = false by simpa using hn]
    rfl
  · rintro ⟨j, hj⟩
    rw [notN_bit, Nat.testBit_and, allN_bit, Bool.and_eq_true, Bool.and_eq_true, Bool.and_eq_true] at hj
    obtain ⟨⟨h1, h2, h3⟩, h4⟩ := hj
    have h2 := of_decide_eq_true h2
    have h3 := of_decide_eq_true h3
    refine ⟨(j : Int), mem_ids.2 ⟨by omega, by omega, h1⟩, ?_⟩
    unfold hasB
    rw [show ((j : Int)).toNat = j from rfl]
    cases hb : b.testBit j with
    | false => rw [Bool.and_false]; decide
    | true => rw [hb] at h4; cases h4
def Unread (s : List UInt8) (ids : List Int) (l : List UInt8) : Prop := (runS ([], -1) s).bind sepS = (runS (ids, -1) l).bind sepS
def cutM (s : List UInt8) : Bool := decide (0 ≤ Lib.indexByte s 43)
end Go.Lg.Sg
end
section
namespace Go.Lg.Sg
open Go Go.Lg Go.Lg.Fld
theorem okI_eq (id : Int) : okJ id = (decide (1 ≤ id) && decide (id ≤ 24)) := rfl
end Go.Lg.Sg
namespace Go.Proofs.YtopiioklkkiedaaGreatDoor
open Go Go.Lg Go.Lg.Fld Go.Lg.Sg
set_option maxRecDepth 100000
variable (X : Nat → Option Obj)
theorem zIsId (id : Int) : PSpec Tryz.prog X 96 [Ln .i64 id] (Lb (okJ id)) := by
  refine PSpec.intro Tryz.func96 rfl (by kernel_rfl) rfl rfl ?_
  intro C
  by_cases h1 : 1 ≤ id
  · rw [okI_eq, decide_eq_true h1, Bool.true_and]
    (refine LWP.seq <| rgN <| kas rfl <| RunK.nil <| LWP.seq <| rgN <| kmv rfl <| K.geq rfl rfl (decide_eq_true h1) .plain <| kmv rfl <| gmv rfl rfl rfl <| K.leq rfl rfl (r := decide (id ≤ 24)) rfl (.taken rfl rfl) ?_; refine kpt rfl rfl <| kas rfl <| RunK.nil <| LWP.ret ?_)
    exact ⟨[_], ⟨rfl, trivial⟩, rfl⟩
  · rw [okI_eq, decide_eq_false h1, Bool.false_and]
    (refine LWP.seq <| rgN <| kas rfl <| RunK.nil <| LWP.seq <| rgN <| kmv rfl <| K.geq rfl rfl (decide_eq_false h1) .plain <| kmv rfl <| RunK.passed rfl rfl rfl <| RunK.passed rfl rfl rfl <| kpf rfl rfl <| kas rfl <| RunK.nil ?_; refine LWP.ret ?_)
    exact ⟨[_], ⟨rfl, trivial⟩, rfl⟩
theorem zBit (id : Int) : PSpec Tryz.prog X 63 [Ln .i64 id] (Ln .u32 (bitN id : Nat)) := by
  have hI := zIsId X id
  refine PSpec.intro Tryz.func63 rfl (by kernel_rfl) rfl rfl ?_
  intro C
  cases h : okJ id with
  | false =>
    have hz : bitN id = 0 := if_neg (by rw [h]; decide)
    rw [h] at hI
    rw [hz]
    (refine LWP.seq <| rgN <| kas rfl <| RunK.nil <| LWP.seq <| LWP.seq <| rgN <| kmv rfl <| kca rfl rfl (hI) <| K.not rfl rfl .plain <| RunK.nil <| LWP.condT rfl ?_; refine LWP.seq <| rgN <| kas rfl <| RunK.nil <| LWP.ret ?_)
    exact ⟨[_], ⟨rfl, trivial⟩, rfl⟩
  | true =>
    have hs := shl_bit h
    have h0 := (okI_iff.1 h).1
    rw [h] at hI
    generalize bitN id = b at *
    (refine LWP.seq <| rgN <| kas rfl <| RunK.nil <| LWP.seq <| LWP.seq <| rgN <| kmv rfl <| kca rfl rfl (hI) <| K.not rfl rfl .plain <| RunK.nil <| LWP.condF rfl ?_; refine LWP.skip ?_; refine LWP.seq <| rgN <| kmv rfl <| K.shl rfl rfl (by omega) hs .plain <| kas rfl <| RunK.nil <| LWP.ret ?_)
    exact ⟨[_], ⟨rfl, trivial⟩, rfl⟩
section
variable (a b : Nat) (ha : a < 4294967296) (hb : b < 4294967296) (id : Int)
include ha
theorem gIs : PSpec Tryz.prog X 30 [Ln .u32 (a : Nat)] (Lb (isB a)) := by
  have h1 := notN_32 (b := allN) ha
  have h2 := is_bits ha
  refine PSpec.intro Tryz.func30 rfl (by kernel_rfl) rfl rfl ?_
  intro C
  generalize a ^^^ (a &&& allN) = c at *
  (refine LWP.seq <| rgN <| kas rfl <| RunK.nil <| LWP.seq <| rgN <| kmv rfl <| K.bitop (by simp) rfl rfl h1 .plain <| keq rfl rfl h2 <| kas rfl <| RunK.nil <| LWP.ret ?_)
  exact ⟨[_], ⟨rfl, trivial⟩, rfl⟩
theorem gHas : PSpec Tryz.prog X 28 [Ln .u32 (a : Nat), Ln .i64 id] (Lb (hasB a id)) := by
  have h1 := andN_32 ha (bitN_lt id)
  have h2 := has_bits a id
  have hB := zBit X id
  refine PSpec.intro Tryz.func28 rfl (by kernel_rfl) rfl rfl ?_
  intro C
  generalize a &&& bitN id = c at *
  generalize bitN id = d at *
  (refine LWP.seq <| rgN <| kas rfl <| RunK.nil <| LWP.seq <| rgN <| kmv rfl <| kmv rfl <| kca rfl rfl (hB) <| K.bitop (by simp) rfl rfl h1 .plain <| kne rfl rfl h2 <| kas rfl <| RunK.nil <| LWP.ret ?_)
  exact ⟨[_], ⟨rfl, trivial⟩, rfl⟩
theorem gWith : PSpec Tryz.prog X 52 [Ln .u32 (a : Nat), Ln .i64 id] (Ln .u32 (withN a id : Nat)) := by
  have h1 := orN_32 ha (bitN_lt id)
  rw [with_bits] at h1
  have hB := zBit X id
  refine PSpec.intro Tryz.func52 rfl (by kernel_rfl) rfl rfl ?_
  intro C
  generalize withN a id = c at *
  generalize bitN id = d at *
  (refine LWP.seq <| rgN <| kas rfl <| RunK.nil <| LWP.seq <| rgN <| kmv rfl <| kmv rfl <| kca rfl rfl (hB) <| K.bitop (by simp) rfl rfl h1 .plain <| kas rfl <| RunK.nil <| LWP.ret ?_)
  exact ⟨[_], ⟨rfl, trivial⟩, rfl⟩
theorem gWithin (_ : b < 4294967296) : PSpec Tryz.prog X 29 [Ln .u32 (a : Nat), Ln .u32 (b : Nat)] (Lb (withinB a b)) := by
  have h1 := andN_32 ha (show allN < 4294967296 by decide)
  have hm : a &&& allN < 4294967296 := Nat.lt_of_le_of_lt Nat.and_le_left ha
  have h2 := notN_32 (b := b) hm
  have h3 := within_bits a b
  refine PSpec.intro Tryz.func29 rfl (by kernel_rfl) rfl rfl ?_
  intro C
  generalize (a &&& allN) ^^^ ((a &&& allN) &&& b) = d at *
  generalize a &&& allN = c at *
  (refine LWP.seq <| rgN <| kas rfl <| RunK.nil <| LWP.seq <| rgN <| kmv rfl <| K.bitop (by simp) rfl rfl h1 .plain <| kmv rfl <| K.bitop (by simp) rfl rfl h2 .plain <| keq rfl rfl h3 <| kas rfl <| RunK.nil <| LWP.ret ?_)
  exact ⟨[_], ⟨rfl, trivial⟩, rfl⟩
include hb
end
end Go.Proofs.YtopiioklkkiedaaGreatDoor
end
section
namespace Go.Lg.Col
open Go Go.Lg Go.RowKit
abbrev Ext (X Y : Nat → Option Obj) : Prop := ∀ b o, X b = some o → Y b = some o
end Go.Lg.Col
namespace Go.Proofs.YtopiioklkkiedaaGreatDoor
open Go Go.Lg Go.Lg.Col
set_option maxRecDepth 100000
variable (X : Nat → Option Obj)
end Go.Proofs.YtopiioklkkiedaaGreatDoor
end
section
namespace Go.Lg.Sg
open Go Go.Lg Go.Lg.Fld
theorem withinB_iff {a b : Nat} : withinB a b = true ↔ ∀ i : Nat, 1 ≤ i → i ≤ 24 → a.testBit i = true → b.testBit i = true := by
  unfold withinB
  rw [List.all_eq_true]
  constructor
  · intro h i h1 h2 h3
    have := h (i : Int) (mem_ids.2 ⟨by omega, by omega, h3⟩)
    unfold hasB at this
    rw [Bool.and_eq_true] at this
    exact this.2
  · intro h x hx
    obtain ⟨h1, h2, h3⟩ := mem_ids.1 hx
    unfold hasB
    rw [Bool.and_eq_true, okI_iff]
    exact ⟨⟨h1, by omega⟩, h x.toNat (by omega) (by omega) h3⟩
end Go.Lg.Sg
namespace Go.Proofs.YtopiioklkkiedaaGreatDoor
open Go Go.Lg Go.Lg.Fld Go.Lg.Sg
set_option maxRecDepth 100000
variable (X : Nat → Option Obj)
end Go.Proofs.YtopiioklkkiedaaGreatDoor
end
section
namespace Go.Proofs.YtopiioklkkiedaaGreatDoor
open Go Go.Lg Go.Lg.Fml Go.Lg.Fld Go.Lg.Arith
theorem sigN_has {rs : List Rl} {s : Nat} {id : Int} (h : Sg.okJ id = true) : Sg.hasB (sigN rs s) id = true ↔ ∃ r ∈ rs, Sg.hasB s r.old = true ∧ r.nw = id := by
  unfold Sg.hasB
  rw [h, Bool.true_and, sigN_bit, List.any_eq_true]
  have h1 := Sg.okI_iff.1 h
  constructor
  · rintro ⟨r, hr, hb⟩
    rw [Bool.and_eq_true, Bool.and_eq_true] at hb
    obtain ⟨b1, b2, b3⟩ := hb
    have := Sg.okI_iff.1 b2
    have := of_decide_eq_true b3
    exact ⟨r, hr, b1, by omega⟩
  · rintro ⟨r, hr, b1, rfl⟩
    exact ⟨r, hr, by rw [Bool.and_eq_true, Bool.and_eq_true]; exact ⟨b1, h, decide_eq_true rfl⟩⟩
theorem sigN_isB (rs : List Rl) (s : Nat) : Sg.isB (sigN rs s) = true := by
  rw [Sg.isB_iff]
  intro i _ hb
  rw [sigN_bit, List.any_eq_true] at hb
  obtain ⟨r, _, hb⟩ := hb
  rw [Bool.and_eq_true, Bool.and_eq_true] at hb
  have := Sg.okI_iff.1 hb.2.1
  have := of_decide_eq_true hb.2.2
  omega
theorem sigN_zero (rs : List Rl) : sigN rs 0 = 0 := by
  apply Nat.eq_of_testBit_eq
  intro j
  rw [sigN_bit, Nat.zero_testBit, List.any_eq_false]
  intro r _
  unfold Sg.hasB
  rw [Nat.zero_testBit, Bool.and_false, Bool.false_and]
  decide
theorem sigN_within (rs : List Rl) (s t : Nat) : Sg.withinB (sigN rs (s &&& t)) (sigN rs t) = true := by
  rw [Sg.withinB_iff]
  intro i _ _ hb
  rw [sigN_bit, List.any_eq_true] at hb ⊢
  obtain ⟨r, hr, hb⟩ := hb
  refine ⟨r, hr, ?_⟩
  rw [Bool.and_eq_true] at hb ⊢
  refine ⟨?_, hb.2⟩
  have h1 := hb.1
  unfold Sg.hasB at h1 ⊢
  rw [Bool.and_eq_true, Nat.testBit_and, Bool.and_eq_true] at h1
  rw [Bool.and_eq_true]
  exact ⟨h1.1, h1.2.2⟩
theorem sigN_fresh {p : Pg} (h : chkP p = 0) {r : Rl} (hr : r ∈ p.rs) (h0 : r.old = 0) (s : Nat) : Sg.hasB (sigN p.rs s) r.nw = false := by
  obtain ⟨hp, hb⟩ := chkRs_pair (chkP_rs h)
  have hok : Sg.okJ r.nw = true := Sg.okI_iff.2 (hb r hr).2.1
  cases hx : Sg.hasB (sigN p.rs s) r.nw with
  | false => rfl
  | true =>
    obtain ⟨q, hq, h1, h2⟩ := (sigN_has hok).1 hx
    have e : q = r := by
      obtain ⟨i, hi⟩ := List.mem_iff_getElem?.1 hr
      obtain ⟨j, hj⟩ := List.mem_iff_getElem?.1 hq
      obtain ⟨i1, i2⟩ := List.getElem?_eq_some_iff.1 hi
      obtain ⟨j1, j2⟩ := List.getElem?_eq_some_iff.1 hj
      have key := List.pairwise_iff_getElem.1 hp
      by_cases c1 : i < j
      · have := key i j i1 j1 c1; rw [i2, j2] at this; omega
      · by_cases c2 : j < i
        · have := key j i j1 i1 c2; rw [i2, j2] at this; omega
        · have : i = j := by omega
          subst this
          rw [hi] at hj; cases hj; rfl
    subst e
    rw [h0] at h1
    unfold Sg.hasB at h1
    rw [Bool.and_eq_true, Sg.okI_iff] at h1
    omega
theorem sigN_lt (rs : List Rl) (s : Nat) : sigN rs s < 33554432 := by
  refine Nat.lt_pow_two_of_testBit (n := 25) _ fun i hi => ?_
  rw [sigN_bit, List.any_eq_false]
  intro r _ hb
  rw [Bool.and_eq_true, Bool.and_eq_true] at hb
  have := Sg.okI_iff.1 hb.2.1
  have := of_decide_eq_true hb.2.2
  omega
end Go.Proofs.YtopiioklkkiedaaGreatDoor
end
section
namespace Go.Proofs.YtopiioklkkiedaaGreatDoor
open Go Go.Lg Go.Lg.Fml Go.Lg.Fld Go.Lg.Arith
set_option maxRecDepth 100000
theorem InsIn.six {X : Nat → Option Obj} {ad : Option Addr} {l : List Ins} (h : InsIn X ad l) {i : Nat} {x : Ins} (hx : l[i]? = some x) :
    ∃ (blk off : Nat) (arr : Array Value) (el : TypeId) (fr : Nat × Nat), ad = some ⟨blk, off, none⟩ ∧ X blk = some (.cells arr el fr) ∧ off + i * 6 + 6 ≤ arr.size ∧ ((arr.toList.drop (off + i * 6)).take 6).map CV.val = (insV x).map CV.val ∧ arr[off + i * 6]? = some (.int .i64 x.op) ∧
      arr[off + i * 6 + 1]? = some (.int .i64 x.a) ∧ arr[off + i * 6 + 2]? = some (.int .i64 x.b) ∧ ((arr.toList.drop (off + i * 6 + 3)).take 3).map CV.val = [.val (.bool x.k.1), .val (.int .u64 (x.k.2 / 18446744073709551616)), .val (.int .u64 (x.k.2 % 18446744073709551616))] := by
  obtain ⟨blk, off, arr, el, fr, h1, h2, h3, h4⟩ := h.rows i (insV x) (by rw [List.getElem?_map, hx]; rfl)
  have key : ∀ j, j < 6 → arr[off + i * 6 + j]? = (insV x)[j]? := fun j hj => by
    rw [← h4, List.getElem?_take, if_pos hj, List.getElem?_drop, Array.getElem?_toList]
  refine ⟨blk, off, arr, el, fr, h1, h2, h3, by rw [h4], key 0 (by decide), key 1 (by decide), key 2 (by decide), ?_⟩
  have : (arr.toList.drop (off + i * 6 + 3)).take 3 = (((arr.toList.drop (off + i * 6)).take 6).drop 3).take 3 := by
    rw [List.drop_take, List.take_take, List.drop_drop]; rfl
  rw [this, h4]; rfl
abbrev isB (t : TypeId) (k : Nat) (x : Ins) : Nat × Option Box := (k, some ⟨t, (insV x).map .val, false⟩)
abbrev flB (k : Nat) (f : Fl) : Nat × Option Box := (k, some ⟨83, f.vals.map .val, false⟩)
theorem _root_.Go.Lg.Fld.FieldsIn.cells {X : Nat → Option Obj} {ad : Option Addr} {fs : List Fl} (h : FieldsIn X ad fs) {i : Nat} {f : Fl} (hf : fs[i]? = some f) :
    ∃ (blk off : Nat) (arr : Array Value) (el : TypeId) (fr : Nat × Nat), ad = some ⟨blk, off, none⟩ ∧ X blk = some (.cells arr el fr) ∧ off + i * 3 + 3 ≤ arr.size ∧ ((arr.toList.drop (off + i * 3)).take 3).map CV.val = f.vals.map CV.val ∧
      arr[off + i * 3]? = some (.string ⟨f.nm.toArray⟩) ∧ arr[off + i * 3 + 1]? = some (.int .i64 f.kind) ∧ arr[off + i * 3 + 2]? = some (.int .i64 f.count) := by
  obtain ⟨blk, off, arr, el, fr, h1, h2, h3, h4⟩ := h.rows i f.vals (by rw [List.getElem?_map, hf]; rfl)
  obtain ⟨g1, g2, g3⟩ := three_at h4
  exact ⟨blk, off, arr, el, fr, h1, h2, h3, by rw [h4], g1, g2, g3⟩
section
variable {fs : List Fl} {f : Fl} {x : Ins}
theorem findE_skip (h : ¬(x.op = 2 ∨ x.op = 3)) : findE fs f x = 0 := if_neg h
theorem findE_out (h : x.op = 2 ∨ x.op = 3) (ha : fs[x.a.toNat]? = none) : findE fs f x = 3 := by unfold findE; rw [if_pos h, ha]
theorem findE_at (h : x.op = 2 ∨ x.op = 3) {g : Fl} (ha : fs[x.a.toNat]? = some g) : findE fs f x = if (x.op = 2 ∧ g.count ≤ x.b) ∨ (x.op = 3 ∧ g.count < f.count) then 3 else if (g.kind = 10) = (f.kind = 10) then 0 else 8 := by unfold findE; rw [if_pos h, ha]
end
theorem beq_dec (a b : Int) : (a == b) = decide (a = b) := by by_cases h : a = b <;> simp [h]
variable (X : Nat → Option Obj)
theorem ruE_at {fs gs : List Fl} {r : Rl} (h0 : r.old ≠ 0) (h : r.ex.length = gs.length) : ruE fs gs r = seqE (fun q : Fl × List Ins => fmE fs q.1 q.2) (gs.zip r.ex) := by unfold ruE; rw [if_neg h0, if_pos h]
theorem zip_two {α β : Type} {l : List α} {m : List β} {i : Nat} {x : α} {y : β} (hx : l[i]? = some x) (hy : m[i]? = some y) : (l.zip m)[i]? = some (x, y) := by
  rw [List.getElem?_zip_eq_some]; exact ⟨hx, hy⟩
end Go.Proofs.YtopiioklkkiedaaGreatDoor
end
section
namespace Go.Proofs.YtopiioklkkiedaaGreatDoor
open Go Go.Lg Go.Lg.Fml Go.Lg.Fld Go.Lg.Arith
set_option maxRecDepth 100000
def rwZ : List Rl → List Value → List Value
  | r :: rs, v :: vs => .int .i64 r.nw :: .int .i64 r.old :: v :: rwZ rs vs
  | _, _ => []
theorem rwZ_len : ∀ {rs : List Rl} {ws : List Value}, ws.length = rs.length → (rwZ rs ws).length = rs.length * 3
  | [], [], _ => rfl
  | c :: cs, v :: vs, h => by
    simp only [rwZ, List.length_cons] at h ⊢
    rw [rwZ_len (rs := cs) (ws := vs) (by omega)]; omega
  | [], _ :: _, h => by simp at h
  | _ :: _, [], h => by simp at h
theorem rwZ_at : ∀ {i : Nat} {rs : List Rl} {ws sp : List Value} {r : Rl} {w : Value}, rs[i]? = some r → ws[i]? = some w → ((rwZ rs ws ++ sp).drop (i * 3)).take 3 = [.int .i64 r.nw, .int .i64 r.old, w]
  | 0, c :: cs, v :: vs, sp, r, w, h1, h2 => by
    simp only [List.getElem?_cons_zero, Option.some.injEq] at h1 h2
    subst h1 h2
    rfl
  | i + 1, c :: cs, v :: vs, sp, r, w, h1, h2 => by
    simp only [List.getElem?_cons_succ] at h1 h2
    have := rwZ_at (sp := sp) h1 h2
    rw [show (i + 1) * 3 = i * 3 + 3 by omega]
    exact this
  | _, [], _, _, _, _, h, _ => by simp at h
  | _, _ :: _, [], _, _, _, _, h => by simp at h
theorem snoc_get {α : Type} {l : List α} {a x : α} {i : Nat} (h : (l ++ [a])[i]? = some x) : (i < l.length ∧ l[i]? = some x) ∨ (i = l.length ∧ x = a) := by
  by_cases e : i < l.length
  · rw [List.getElem?_append_left e] at h; exact .inl ⟨e, h⟩
  · have h1 := (List.getElem?_eq_some_iff.1 h).1
    rw [List.length_append] at h1
    simp only [List.length_singleton] at h1
    have e2 : i = l.length := by omega
    subst e2
    rw [List.getElem?_append_right (Nat.le_refl _), Nat.sub_self] at h
    simp only [List.getElem?_cons_zero, Option.some.injEq] at h
    exact .inr ⟨rfl, h.symm⟩
structure FormsH (H : Nat → Option Obj) (vs : List Value) (cs : List (List Ins)) : Prop where
  len : vs.length = cs.length
  at_ : ∀ (i : Nat) (v : Value) (c : List Ins), vs[i]? = some v → cs[i]? = some c → ∃ (vad : Option Addr) (vcap : Nat), v = .slice vad c.length vcap ∧ InsIn H vad c
theorem FormsH.nil {H : Nat → Option Obj} : FormsH H [] [] := ⟨rfl, fun i v c h => by simp at h⟩
theorem FormsH.push {H : Nat → Option Obj} {vs : List Value} {cs : List (List Ins)} (G : FormsH H vs cs) {v : Value} {c : List Ins} (hv : ∃ (vad : Option Addr) (vcap : Nat), v = .slice vad c.length vcap ∧ InsIn H vad c) : FormsH H (vs ++ [v]) (cs ++ [c]) := ⟨by rw [List.length_append, List.length_append, G.len]; rfl, fun i w d hw hd => by
  have hl := G.len
  rcases snoc_get hw with ⟨h1, h2⟩ | ⟨h1, rfl⟩
  · rcases snoc_get hd with ⟨h3, h4⟩ | ⟨h3, _⟩
    · exact G.at_ i w d h2 h4
    · omega
  · rcases snoc_get hd with ⟨h3, _⟩ | ⟨_, rfl⟩
    · omega
    · exact hv⟩
structure RulesH (H : Nat → Option Obj) (ws : List Value) (rs : List Rl) : Prop where
  len : ws.length = rs.length
  at_ : ∀ (i : Nat) (w : Value) (r : Rl), ws[i]? = some w → rs[i]? = some r → ∃ (ead : Option Addr) (ecap : Nat), w = .slice ead r.ex.length ecap ∧ CodesIn H ead r.ex
theorem RulesH.nil {H : Nat → Option Obj} : RulesH H [] [] := ⟨rfl, fun i v c h => by simp at h⟩
theorem RulesH.mono {H H' : Nat → Option Obj} (hH : ∀ b o, H b = some o → H' b = some o) {vs : List Value} {cs : List Rl} (G : RulesH H vs cs) : RulesH H' vs cs := ⟨G.len, fun i v c hv hc => by
  obtain ⟨vad, vcap, h1, h2⟩ := G.at_ i v c hv hc
  exact ⟨vad, vcap, h1, h2.mono hH⟩⟩
theorem RulesH.push {H : Nat → Option Obj} {vs : List Value} {cs : List Rl} (G : RulesH H vs cs) {v : Value} {c : Rl} (hv : ∃ (vad : Option Addr) (vcap : Nat), v = .slice vad c.ex.length vcap ∧ CodesIn H vad c.ex) : RulesH H (vs ++ [v]) (cs ++ [c]) := ⟨by rw [List.length_append, List.length_append, G.len]; rfl, fun i w d hw hd => by
  have hl := G.len
  rcases snoc_get hw with ⟨h1, h2⟩ | ⟨h1, rfl⟩
  · rcases snoc_get hd with ⟨h3, h4⟩ | ⟨h3, _⟩
    · exact G.at_ i w d h2 h4
    · omega
  · rcases snoc_get hd with ⟨h3, _⟩ | ⟨_, rfl⟩
    · omega
    · exact hv⟩
theorem forms_block {Y : Nat → Option Obj} {blk : Nat} {arr : Array Value} {el : TypeId} {fr : Nat × Nat} {vs sp : List Value} {cs : List (List Ins)} (hY : Y blk = some (.cells arr el fr)) (h : arr.toList = vs ++ sp) (G : FormsH Y vs cs) : CodesIn Y (some ⟨blk, 0, none⟩) cs := ⟨fun i c hc => by
  have hi := (List.getElem?_eq_some_iff.1 hc).1
  have hl := G.len
  obtain ⟨v, hv⟩ : ∃ v, vs[i]? = some v := ⟨_, List.getElem?_eq_getElem (by omega)⟩
  obtain ⟨vad, vcap, h1, h2⟩ := G.at_ i v c hv hc
  have hsz : arr.size = vs.length + sp.length := by rw [← Array.length_toList, h, List.length_append]
  refine ⟨blk, 0, arr, el, fr, vad, vcap, rfl, hY, by omega, ?_, h2⟩
  rw [← Array.getElem?_toList, h, Nat.zero_add, List.getElem?_append_left (by omega), hv, h1]⟩
theorem rules_block {Y : Nat → Option Obj} {blk : Nat} {arr : Array Value} {el : TypeId} {fr : Nat × Nat} {ws sp : List Value} {rs : List Rl} (hY : Y blk = some (.cells arr el fr)) (h : arr.toList = rwZ rs ws ++ sp) (G : RulesH Y ws rs) (hs : ∀ r ∈ rs, smallR r) : RulesIn Y (some ⟨blk, 0, none⟩) rs := ⟨fun i r hr => by
  have hi := (List.getElem?_eq_some_iff.1 hr).1
  have hl := G.len
  obtain ⟨v, hv⟩ : ∃ v, ws[i]? = some v := ⟨_, List.getElem?_eq_getElem (by omega)⟩
  obtain ⟨ead, ecap, h1, h2⟩ := G.at_ i v r hv hr
  have hsz : arr.size = rs.length * 3 + sp.length := by rw [← Array.length_toList, h, List.length_append, rwZ_len hl]
  refine ⟨blk, 0, arr, el, fr, ead, ecap, rfl, hY, by omega, ?_, h2⟩
  rw [h, Nat.zero_add, rwZ_at hr hv, h1], hs⟩
section
variable {n : Nat} {C : Ctx} {X : Nat → Option Obj} {s : List (Nat × LV)} {bx : List (Nat × Option Box)} {k : Nat}
end
theorem CodesIn.nilIn {H : Nat → Option Obj} : ∃ (ead : Option Addr) (ecap : Nat), Value.slice none 0 0 = .slice ead ([] : List (List Ins)).length ecap ∧ CodesIn H ead [] := ⟨none, 0, rfl, CodesIn.nil⟩
variable (X : Nat → Option Obj)
end Go.Proofs.YtopiioklkkiedaaGreatDoor
end
section
namespace Go.Proofs.YtopiioklkkiedaaGreatDoor
open Go Go.Lg Go.Lg.Fml Go.Lg.Fld Go.Lg.Arith
set_option maxRecDepth 100000
variable (X : Nat → Option Obj)
theorem kIsVersion (n : Int) : PSpec Tryz.prog X 61 [Ln .i64 n] (Lb (verOk n)) := by
  refine PSpec.intro Tryz.func61 rfl (by kernel_rfl) rfl rfl ?_
  intro C
  by_cases h1 : 1 ≤ n
  · by_cases h2 : n ≤ 1073741824
    · rw [show verOk n = true by unfold verOk; simp; omega]
      (refine LWP.seq <| rgN <| kas rfl <| RunK.nil <| LWP.seq <| rgN <| kmv rfl <| K.geq rfl rfl (decide_eq_true (by omega)) .plain <| kmv rfl <| gmv rfl rfl rfl <| K.leq rfl rfl (decide_eq_true (by omega)) (.taken rfl rfl) ?_; refine kpt rfl rfl <| kas rfl <| RunK.nil <| LWP.ret ?_)
      exact ⟨[_], ⟨rfl, trivial⟩, rfl⟩
    · rw [show verOk n = false by unfold verOk; simp; omega]
      (refine LWP.seq <| rgN <| kas rfl <| RunK.nil <| LWP.seq <| rgN <| kmv rfl <| K.geq rfl rfl (decide_eq_true (by omega)) .plain <| kmv rfl <| gmv rfl rfl rfl <| K.leq rfl rfl (decide_eq_false (by omega)) (.taken rfl rfl) ?_; refine kpt rfl rfl <| kas rfl <| RunK.nil <| LWP.ret ?_)
      exact ⟨[_], ⟨rfl, trivial⟩, rfl⟩
  · rw [show verOk n = false by unfold verOk; simp; omega]
    (refine LWP.seq <| rgN <| kas rfl <| RunK.nil <| LWP.seq <| rgN <| kmv rfl <| K.geq rfl rfl (decide_eq_false (by omega)) .plain <| kmv rfl <| RunK.passed rfl rfl rfl <| RunK.passed rfl rfl rfl <| kpf rfl rfl <| kas rfl <| RunK.nil ?_; refine LWP.ret ?_)
    exact ⟨[_], ⟨rfl, trivial⟩, rfl⟩
set_option maxHeartbeats 3200000 in
theorem kCheckRule (r : Rl) (ead : Option Addr) (ecap : Nat) (hE : CodesIn X ead r.ex) (h1 : r.ex.length < 4611686018427387904) (h2 : ∀ c ∈ r.ex, c.length < 1152921504606846976) (last : Int) (h0 : 0 ≤ last) :
    PSpec Tryz.prog X 62 [LPg r.nw r.old ead r.ex.length ecap, Ln .i64 last] (Ln .i64 (chkR r last)) := by
  refine PSpec.intro Tryz.func62 rfl (by kernel_rfl) rfl rfl ?_
  intro C
  obtain ⟨nw, old, ex⟩ := r
  simp only at hE h1 h2 ⊢
  by_cases c1 : nw ≤ last
  · rw [show chkR ⟨nw, old, ex⟩ last = 1 from if_pos (by simp only; omega)]
    (refine LWP.seq <| rgN <| K.box rfl rfl rfl .plain <| kas rfl <| RunK.nil <| LWP.seq <| LWP.block <| LWP.seq <| rgN <| kfa rfl rfl ?_; refine kl1 rfl rfl rfl <| kmv rfl <| K.leq rfl rfl (decide_eq_true (by omega)) .plain <| kmv rfl <| RunK.passed rfl rfl rfl <| RunK.passed rfl rfl rfl <| RunK.passed rfl rfl rfl <| kpt rfl rfl <| kmv rfl <| RunK.passed rfl rfl rfl <| RunK.passed rfl rfl rfl <| RunK.passed rfl rfl rfl <| kpt rfl rfl <| kmv rfl ?_; refine RunK.passed rfl rfl rfl <| RunK.passed rfl rfl rfl <| RunK.passed rfl rfl rfl <| kpt rfl rfl <| kas rfl <| RunK.nil <| LWP.condT rfl ?_; refine LWP.seq <| rgN <| kas rfl <| RunK.nil <| LWP.ret ?_)
    exact ⟨[_], ⟨rfl, trivial⟩, rfl⟩
  by_cases c2 : 24 < nw
  · rw [show chkR ⟨nw, old, ex⟩ last = 1 from if_pos (by simp only; omega)]
    (refine LWP.seq <| rgN <| K.box rfl rfl rfl .plain <| kas rfl <| RunK.nil <| LWP.seq <| LWP.block <| LWP.seq <| rgN <| kfa rfl rfl ?_; refine kl1 rfl rfl rfl <| kmv rfl <| K.leq rfl rfl (decide_eq_false (by omega)) .plain <| kmv rfl <| K.fieldAddr rfl rfl (.taken rfl rfl) ?_; refine K.loadOne rfl rfl rfl (.taken rfl rfl) ?_; refine K.gtr rfl rfl (decide_eq_true (by omega)) (.taken rfl rfl) ?_; refine kpf rfl rfl <| kmv rfl <| RunK.passed rfl rfl rfl <| RunK.passed rfl rfl rfl <| RunK.passed rfl rfl rfl <| kpt rfl rfl <| kmv rfl <| RunK.passed rfl rfl rfl <| RunK.passed rfl rfl rfl <| RunK.passed rfl rfl rfl <| kpt rfl rfl <| kas rfl <| RunK.nil <| LWP.condT rfl ?_; refine LWP.seq <| rgN <| kas rfl <| RunK.nil <| LWP.ret ?_)
    exact ⟨[_], ⟨rfl, trivial⟩, rfl⟩
  by_cases c3 : old < 0
  · rw [show chkR ⟨nw, old, ex⟩ last = 1 from if_pos (by simp only; omega)]
    (refine LWP.seq <| rgN <| K.box rfl rfl rfl .plain <| kas rfl <| RunK.nil <| LWP.seq <| LWP.block <| LWP.seq <| rgN <| kfa rfl rfl ?_; refine kl1 rfl rfl rfl <| kmv rfl <| K.leq rfl rfl (decide_eq_false (by omega)) .plain <| kmv rfl <| K.fieldAddr rfl rfl (.taken rfl rfl) ?_; refine K.loadOne rfl rfl rfl (.taken rfl rfl) ?_; refine K.gtr rfl rfl (decide_eq_false (by omega)) (.taken rfl rfl) ?_; refine kpf rfl rfl <| kmv rfl <| K.fieldAddr rfl rfl (.taken rfl rfl) ?_; refine K.loadOne rfl rfl rfl (.taken rfl rfl) ?_; refine K.lss rfl rfl (decide_eq_true (by omega)) (.taken rfl rfl) ?_; refine kpf rfl rfl <| kmv rfl <| RunK.passed rfl rfl rfl <| RunK.passed rfl rfl rfl <| RunK.passed rfl rfl rfl <| kpt rfl rfl <| kas rfl <| RunK.nil <| LWP.condT rfl ?_; refine LWP.seq <| rgN <| kas rfl <| RunK.nil <| LWP.ret ?_)
    exact ⟨[_], ⟨rfl, trivial⟩, rfl⟩
  by_cases c4 : 24 < old
  · rw [show chkR ⟨nw, old, ex⟩ last = 1 from if_pos (by simp only; omega)]
    (refine LWP.seq <| rgN <| K.box rfl rfl rfl .plain <| kas rfl <| RunK.nil <| LWP.seq <| LWP.block <| LWP.seq <| rgN <| kfa rfl rfl ?_; refine kl1 rfl rfl rfl <| kmv rfl <| K.leq rfl rfl (decide_eq_false (by omega)) .plain <| kmv rfl <| K.fieldAddr rfl rfl (.taken rfl rfl) ?_; refine K.loadOne rfl rfl rfl (.taken rfl rfl) ?_; refine K.gtr rfl rfl (decide_eq_false (by omega)) (.taken rfl rfl) ?_; refine kpf rfl rfl <| kmv rfl <| K.fieldAddr rfl rfl (.taken rfl rfl) ?_; refine K.loadOne rfl rfl rfl (.taken rfl rfl) ?_; refine K.lss rfl rfl (decide_eq_false (by omega)) (.taken rfl rfl) ?_; refine kpf rfl rfl <| kmv rfl <| K.fieldAddr rfl rfl (.taken rfl rfl) ?_; refine K.loadOne rfl rfl rfl (.taken rfl rfl) ?_; refine K.gtr rfl rfl (decide_eq_true (by omega)) (.taken rfl rfl) ?_; refine kpf rfl rfl <| kas rfl <| RunK.nil <| LWP.condT rfl ?_; refine LWP.seq <| rgN <| kas rfl <| RunK.nil <| LWP.ret ?_)
    exact ⟨[_], ⟨rfl, trivial⟩, rfl⟩
  have e1 : chkR ⟨nw, old, ex⟩ last = if old = 0 ∧ ex ≠ [] then 4 else if 8 < ex.length then 5 else firstX ex := if_neg (by simp only; omega)
  rw [e1]
  have hl : ex ≠ [] ↔ 0 < ex.length := by rw [List.length_pos_iff]
  by_cases c5 : old = 0
  · by_cases c6 : 0 < ex.length
    · rw [if_pos ⟨c5, hl.2 c6⟩]
      (refine LWP.seq <| rgN <| K.box rfl rfl rfl .plain <| kas rfl <| RunK.nil <| LWP.seq <| LWP.block <| LWP.seq <| rgN <| kfa rfl rfl ?_; refine kl1 rfl rfl rfl <| kmv rfl <| K.leq rfl rfl (decide_eq_false (by omega)) .plain <| kmv rfl <| K.fieldAddr rfl rfl (.taken rfl rfl) ?_; refine K.loadOne rfl rfl rfl (.taken rfl rfl) ?_; refine K.gtr rfl rfl (decide_eq_false (by omega)) (.taken rfl rfl) ?_; refine kpf rfl rfl <| kmv rfl <| K.fieldAddr rfl rfl (.taken rfl rfl) ?_; refine K.loadOne rfl rfl rfl (.taken rfl rfl) ?_; refine K.lss rfl rfl (decide_eq_false (by omega)) (.taken rfl rfl) ?_; refine kpf rfl rfl <| kmv rfl <| K.fieldAddr rfl rfl (.taken rfl rfl) ?_; refine K.loadOne rfl rfl rfl (.taken rfl rfl) ?_; refine K.gtr rfl rfl (decide_eq_false (by omega)) (.taken rfl rfl) ?_; refine kpf rfl rfl <| kas rfl <| RunK.nil <| LWP.condF rfl ?_; refine LWP.seq <| rgN <| kfa rfl rfl ?_; refine kl1 rfl rfl rfl <| keq rfl rfl (beq_iff_eq.2 c5) <| kmv rfl <| K.fieldAddr rfl rfl (.taken rfl rfl) ?_; refine K.loadOne rfl rfl rfl (.taken rfl rfl) ?_; refine K.lenX rfl SliceT.h rfl (.taken rfl rfl) ?_; refine K.gtr rfl rfl (decide_eq_true (by omega)) (.taken rfl rfl) ?_; refine kpt rfl rfl <| kas rfl <| RunK.nil <| LWP.condT rfl ?_; refine LWP.seq <| rgN <| kas rfl <| RunK.nil <| LWP.ret ?_)
      exact ⟨[_], ⟨rfl, trivial⟩, rfl⟩
    · have e0 : ex = [] := by
        by_cases h : ex = []
        · exact h
        · exact absurd (hl.1 h) c6
      subst e0
      rw [if_neg (fun h => h.2 rfl), if_neg (by decide)]
      ((refine LWP.seq <| rgN <| K.box rfl rfl rfl .plain <| kas rfl <| RunK.nil <| LWP.seq <| LWP.block <| LWP.seq <| rgN <| kfa rfl rfl ?_; refine kl1 rfl rfl rfl <| kmv rfl <| K.leq rfl rfl (decide_eq_false (by omega)) .plain <| kmv rfl <| K.fieldAddr rfl rfl (.taken rfl rfl) ?_; refine K.loadOne rfl rfl rfl (.taken rfl rfl) ?_; refine K.gtr rfl rfl (decide_eq_false (by omega)) (.taken rfl rfl) ?_; refine kpf rfl rfl <| kmv rfl <| K.fieldAddr rfl rfl (.taken rfl rfl) ?_; refine K.loadOne rfl rfl rfl (.taken rfl rfl) ?_; refine K.lss rfl rfl (decide_eq_false (by omega)) (.taken rfl rfl) ?_; refine kpf rfl rfl <| kmv rfl <| K.fieldAddr rfl rfl (.taken rfl rfl) ?_; refine K.loadOne rfl rfl rfl (.taken rfl rfl) ?_; refine K.gtr rfl rfl (decide_eq_false (by omega)) (.taken rfl rfl) ?_; refine kpf rfl rfl <| kas rfl <| RunK.nil <| LWP.condF rfl ?_; refine LWP.seq <| rgN <| kfa rfl rfl ?_); (refine kl1 rfl rfl rfl <| keq rfl rfl (beq_iff_eq.2 c5) <| kmv rfl <| K.fieldAddr rfl rfl (.taken rfl rfl) ?_; refine K.loadOne rfl rfl rfl (.taken rfl rfl) ?_; refine K.lenX rfl SliceT.h rfl (.taken rfl rfl) ?_; refine K.gtr rfl rfl (decide_eq_false (by decide)) (.taken rfl rfl) ?_; refine kpt rfl rfl <| kas rfl <| RunK.nil <| LWP.condF rfl ?_; refine LWP.seq <| rgN <| kfa rfl rfl ?_; refine kl1 rfl rfl rfl <| K.lenX rfl SliceT.h rfl .plain ?_; refine K.gtr rfl rfl (decide_eq_false (by decide)) .plain <| kas rfl <| RunK.nil <| LWP.condF rfl ?_; refine LWP.skip ?_; refine LWP.seq <| LWP.seq <| rgN <| kfa rfl rfl ?_; refine kl1 rfl rfl rfl <| K.lenX rfl SliceT.h rfl .plain ?_; refine kmv rfl <| RunK.nil <| LWP.block ?_))
      refine LWP.loop (fun m σ => m = 0 ∧ σ = ⟨[(46, Ln .i64 0), (47, Ln .i64 0)], [], X⟩) 0 ⟨⟨[(46, Ln .i64 0), (47, Ln .i64 0)], [], X⟩, Le.of (by exact ⟨rfl, rfl, trivial⟩) (by exact trivial) (by exact rfl) (by exact rfl) (by repeat' (first | refine all_cons_true ?_ ?_ | rfl | exact bytes_inUse | exact vals_inUse | exact mid_inUse rfl)), rfl, rfl⟩ ?_
      rintro m σ ⟨rfl, rfl⟩
      (refine LWP.seq <| rgN <| klt rfl rfl (r := false) rfl <| RunK.nil <| LWP.seq <| LWP.condF rfl ?_; refine LWP.exit <| LWP.seq <| rgN <| kas rfl <| RunK.nil <| LWP.ret ?_)
      exact ⟨[_], ⟨rfl, trivial⟩, rfl⟩
  rw [if_neg (fun h => c5 h.1)]
  by_cases c7 : 8 < ex.length
  · rw [if_pos c7]
    (refine LWP.seq <| rgN <| K.box rfl rfl rfl .plain <| kas rfl <| RunK.nil <| LWP.seq <| LWP.block <| LWP.seq <| rgN <| kfa rfl rfl ?_; refine kl1 rfl rfl rfl <| kmv rfl <| K.leq rfl rfl (decide_eq_false (by omega)) .plain <| kmv rfl <| K.fieldAddr rfl rfl (.taken rfl rfl) ?_; refine K.loadOne rfl rfl rfl (.taken rfl rfl) ?_; refine K.gtr rfl rfl (decide_eq_false (by omega)) (.taken rfl rfl) ?_; refine kpf rfl rfl <| kmv rfl <| K.fieldAddr rfl rfl (.taken rfl rfl) ?_; refine K.loadOne rfl rfl rfl (.taken rfl rfl) ?_; refine K.lss rfl rfl (decide_eq_false (by omega)) (.taken rfl rfl) ?_; refine kpf rfl rfl <| kmv rfl <| K.fieldAddr rfl rfl (.taken rfl rfl) ?_; refine K.loadOne rfl rfl rfl (.taken rfl rfl) ?_; refine K.gtr rfl rfl (decide_eq_false (by omega)) (.taken rfl rfl) ?_; refine kpf rfl rfl <| kas rfl <| RunK.nil <| LWP.condF rfl ?_; refine LWP.seq <| rgN <| kfa rfl rfl ?_; refine kl1 rfl rfl rfl <| keq rfl rfl (beq_eq_false_iff_ne.2 c5) <| kmv rfl <| RunK.passed rfl rfl rfl <| RunK.passed rfl rfl rfl <| RunK.passed rfl rfl rfl <| RunK.passed rfl rfl rfl <| kpf rfl rfl <| kas rfl <| RunK.nil <| LWP.condF rfl ?_; refine LWP.seq <| rgN <| kfa rfl rfl ?_; refine kl1 rfl rfl rfl <| K.lenX rfl SliceT.h rfl .plain ?_; refine K.gtr rfl rfl (decide_eq_true (by omega)) .plain <| kas rfl <| RunK.nil <| LWP.condT rfl ?_; refine LWP.seq <| rgN <| kas rfl <| RunK.nil <| LWP.ret ?_)
    exact ⟨[_], ⟨rfl, trivial⟩, rfl⟩
  rw [if_neg c7]
  (refine LWP.seq <| rgN <| K.box rfl rfl rfl .plain <| kas rfl <| RunK.nil <| LWP.seq <| LWP.block <| LWP.seq <| rgN <| kfa rfl rfl ?_; refine kl1 rfl rfl rfl <| kmv rfl <| K.leq rfl rfl (decide_eq_false (by omega)) .plain <| kmv rfl <| K.fieldAddr rfl rfl (.taken rfl rfl) ?_; refine K.loadOne rfl rfl rfl (.taken rfl rfl) ?_; refine K.gtr rfl rfl (decide_eq_false (by omega)) (.taken rfl rfl) ?_; refine kpf rfl rfl <| kmv rfl <| K.fieldAddr rfl rfl (.taken rfl rfl) ?_; refine K.loadOne rfl rfl rfl (.taken rfl rfl) ?_; refine K.lss rfl rfl (decide_eq_false (by omega)) (.taken rfl rfl) ?_; refine kpf rfl rfl <| kmv rfl <| K.fieldAddr rfl rfl (.taken rfl rfl) ?_; refine K.loadOne rfl rfl rfl (.taken rfl rfl) ?_; refine K.gtr rfl rfl (decide_eq_false (by omega)) (.taken rfl rfl) ?_; refine kpf rfl rfl <| kas rfl <| RunK.nil <| LWP.condF rfl ?_; refine LWP.seq <| rgN <| kfa rfl rfl ?_; refine kl1 rfl rfl rfl <| keq rfl rfl (beq_eq_false_iff_ne.2 c5) <| kmv rfl <| RunK.passed rfl rfl rfl <| RunK.passed rfl rfl rfl <| RunK.passed rfl rfl rfl <| RunK.passed rfl rfl rfl <| kpf rfl rfl <| kas rfl <| RunK.nil <| LWP.condF rfl ?_; refine LWP.seq <| rgN <| kfa rfl rfl ?_; refine kl1 rfl rfl rfl <| K.lenX rfl SliceT.h rfl .plain ?_; refine K.gtr rfl rfl (decide_eq_false (by omega)) .plain <| kas rfl <| RunK.nil <| LWP.condF rfl ?_; refine LWP.skip ?_; refine LWP.seq <| LWP.seq <| rgN <| kfa rfl rfl ?_; refine kl1 rfl rfl rfl <| K.lenX rfl SliceT.h rfl .plain ?_; refine kmv rfl <| RunK.nil <| LWP.block ?_)
  refine LWP.loop (fun m σ => ∃ i : Nat, i ≤ ex.length ∧ m = ex.length - i ∧ firstX ex = firstX (ex.drop i) ∧ σ = ⟨[(45, Lx ead ex.length ecap), (46, Ln .i64 (ex.length : Nat)), (47, Ln .i64 (i : Nat))], [], X⟩) ex.length
    ⟨⟨[(45, Lx ead ex.length ecap), (46, Ln .i64 (ex.length : Nat)), (47, Ln .i64 (0 : Nat))], [], X⟩, Le.of (by exact ⟨rfl, rfl, rfl, trivial⟩) (by exact trivial) (by exact rfl) (by exact rfl) (by repeat' (first | refine all_cons_true ?_ ?_ | rfl | exact bytes_inUse | exact vals_inUse | exact mid_inUse rfl)), 0, by omega, by omega, rfl, rfl⟩ ?_
  rintro m σ ⟨i, hi, rfl, hpre, rfl⟩
  by_cases hlt : i < ex.length
  case neg =>
    rw [hpre, List.drop_eq_nil_of_le (by omega)]
    (refine LWP.seq <| rgN <| klt rfl rfl (decide_eq_false (by omega)) <| RunK.nil <| LWP.seq <| LWP.condF rfl ?_; refine LWP.exit <| LWP.seq <| rgN <| kas rfl <| RunK.nil <| LWP.ret ?_)
    exact ⟨[_], ⟨rfl, trivial⟩, rfl⟩
  obtain ⟨c, hc⟩ : ∃ c, ex[i]? = some c := ⟨_, List.getElem?_eq_getElem hlt⟩
  obtain ⟨eb, eo, earr, eel, efr, vad, vcap, rfl, hEX, hec, hI⟩ := hE.get hc
  have hio : eo + Int.toNat (i : Int) * 1 = eo + i * 1 := by simp
  have hG := gEncode' X c vad vcap hI (h2 c (List.mem_of_getElem? hc))
  rw [drop_at hc, firstX_cons] at hpre
  by_cases he : encErr c = 0
  · rw [if_pos he] at hpre
    rw [he] at hG
    have hadd : IntKind.i64.wrap (((i : Nat) : Int) + 1) = ((i + 1 : Nat) : Int) := by rw [wrap_i64 (by omega)]; omega
    (refine LWP.seq <| rgN <| klt rfl rfl (decide_eq_true (by omega)) <| RunK.nil <| LWP.seq <| LWP.condT rfl ?_; refine LWP.skip ?_; refine LWP.seq <| LWP.block <| LWP.seq <| rgN <| K.indexX rfl rfl SliceT.h (by omega) hio .plain <| K.loadX rfl hEX rfl hec .plain <| kas rfl <| RunK.nil <| LWP.seq <| rgN <| kmv rfl <| kca rfl rfl hG <| kmv rfl <| kex rfl rfl ?_; refine kex rfl rfl <| kas rfl <| kas rfl <| RunK.nil <| LWP.seq <| rgN <| kmv rfl <| kne rfl rfl (r := false) rfl <| RunK.nil <| LWP.condF rfl ?_; refine LWP.skip ?_; refine rgN <| kad rfl rfl hadd <| kmv rfl <| RunK.nil ?_)
    exact ⟨_, ⟨[(45, Lx (some ⟨eb, eo, none⟩) ex.length ecap), (46, Ln .i64 (ex.length : Nat)), (47, Ln .i64 (i + 1 : Nat))], [], X⟩, by omega, Le.of (by exact ⟨rfl, rfl, rfl, trivial⟩) (by exact trivial) (by exact rfl) (by exact rfl) (by repeat' (first | refine all_cons_true ?_ ?_ | rfl | exact bytes_inUse | exact vals_inUse | exact mid_inUse rfl)), i + 1, by omega, rfl, hpre, rfl⟩
  · rw [if_neg he] at hpre
    rw [hpre]
    have hne : (encErr c != 0) = true := by rw [bne_iff_ne]; exact he
    generalize encErr c = ce at *
    (refine LWP.seq <| rgN <| klt rfl rfl (decide_eq_true (by omega)) <| RunK.nil <| LWP.seq <| LWP.condT rfl ?_; refine LWP.skip ?_; refine LWP.seq <| LWP.block <| LWP.seq <| rgN <| K.indexX rfl rfl SliceT.h (by omega) hio .plain <| K.loadX rfl hEX rfl hec .plain <| kas rfl <| RunK.nil <| LWP.seq <| rgN <| kmv rfl <| kca rfl rfl hG <| kmv rfl <| kex rfl rfl ?_; refine kex rfl rfl <| kas rfl <| kas rfl <| RunK.nil <| LWP.seq <| rgN <| kmv rfl <| kne rfl rfl hne <| RunK.nil <| LWP.condT rfl ?_; refine LWP.seq <| rgN <| kmv rfl <| kas rfl <| RunK.nil <| LWP.ret ?_)
    exact ⟨[_], ⟨rfl, trivial⟩, rfl⟩
set_option maxHeartbeats 3200000 in
theorem kCheck (p : Pg) (ad : Option Addr) (cap : Nat) (hin : RulesIn X ad p.rs) (hbig : p.rs.length < 4611686018427387904) (hsz : sizeR p.rs) : PSpec Tryz.prog X 27 [LPg p.va p.vb ad p.rs.length cap] (Ln .i64 (chkP p)) := by
  obtain ⟨va, vb, rs⟩ := p
  simp only at hin hbig hsz ⊢
  have v1 := kIsVersion X va
  have v2 := kIsVersion X vb
  refine PSpec.intro Tryz.func27 rfl (by kernel_rfl) rfl rfl ?_
  intro C
  cases q1 : verOk va with
  | false =>
    rw [q1] at v1
    rw [chkP_bad (by simp only; rw [q1, Bool.false_and]; decide)]
    (refine LWP.seq <| rgN <| K.box rfl rfl rfl .plain <| kas rfl <| RunK.nil <| LWP.seq <| LWP.seq <| rgN <| kfa rfl rfl ?_; refine kl1 rfl rfl rfl <| kca rfl rfl v1 <| K.not rfl rfl .plain <| kmv rfl <| RunK.passed rfl rfl rfl <| RunK.passed rfl rfl rfl <| RunK.passed rfl rfl rfl <| RunK.passed rfl rfl rfl <| kpt rfl rfl <| RunK.nil <| LWP.condT rfl ?_; refine LWP.seq <| rgN <| kas rfl <| RunK.nil <| LWP.ret ?_)
    exact ⟨[_], ⟨rfl, trivial⟩, rfl⟩
  | true =>
  rw [q1] at v1
  cases q2 : verOk vb with
  | false =>
    rw [q2] at v2
    rw [chkP_bad (by simp only; rw [q2, Bool.and_false]; decide)]
    (refine LWP.seq <| rgN <| K.box rfl rfl rfl .plain <| kas rfl <| RunK.nil <| LWP.seq <| LWP.seq <| rgN <| kfa rfl rfl ?_; refine kl1 rfl rfl rfl <| kca rfl rfl v1 <| K.not rfl rfl .plain <| kmv rfl <| K.fieldAddr rfl rfl (.taken rfl rfl) ?_; refine K.loadOne rfl rfl rfl (.taken rfl rfl) ?_; refine gca rfl rfl v2 rfl rfl <| K.not rfl rfl (.taken rfl rfl) ?_; refine kpf rfl rfl <| RunK.nil <| LWP.condT rfl ?_; refine LWP.seq <| rgN <| kas rfl <| RunK.nil <| LWP.ret ?_)
    exact ⟨[_], ⟨rfl, trivial⟩, rfl⟩
  | true =>
  rw [q2] at v2
  rw [chkP_good (by simp only; rw [q1, q2]; rfl)]
  (refine LWP.seq <| rgN <| K.box rfl rfl rfl .plain <| kas rfl <| RunK.nil <| LWP.seq <| LWP.seq <| rgN <| kfa rfl rfl ?_; refine kl1 rfl rfl rfl <| kca rfl rfl v1 <| K.not rfl rfl .plain <| kmv rfl <| K.fieldAddr rfl rfl (.taken rfl rfl) ?_; refine K.loadOne rfl rfl rfl (.taken rfl rfl) ?_; refine gca rfl rfl v2 rfl rfl <| K.not rfl rfl (.taken rfl rfl) ?_; refine kpf rfl rfl <| RunK.nil <| LWP.condF rfl ?_; refine LWP.skip ?_; refine LWP.seq <| rgN <| kas rfl <| RunK.nil <| LWP.seq <| LWP.seq <| rgN <| kfa rfl rfl ?_; refine kl1 rfl rfl rfl <| K.lenX rfl SliceT.h rfl .plain ?_; refine kmv rfl <| RunK.nil <| LWP.block ?_)
  simp only
  refine LWP.loop (fun m σ => ∃ i : Nat, i ≤ rs.length ∧ m = rs.length - i ∧ chkRs 0 rs = chkRs (lastR rs i) (rs.drop i) ∧ 0 ≤ lastR rs i ∧ σ = ⟨[(3, Ln .i64 (lastR rs i)), (18, Lx ad rs.length cap), (19, Ln .i64 (rs.length : Nat)), (20, Ln .i64 (i : Nat))], [], X⟩) rs.length
    ⟨⟨[(3, Ln .i64 (lastR rs 0)), (18, Lx ad rs.length cap), (19, Ln .i64 (rs.length : Nat)), (20, Ln .i64 (0 : Nat))], [], X⟩, Le.of (by exact ⟨rfl, rfl, rfl, rfl, trivial⟩) (by exact trivial) (by exact rfl) (by exact rfl) (by repeat' (first | refine all_cons_true ?_ ?_ | rfl | exact bytes_inUse | exact vals_inUse | exact mid_inUse rfl)), 0, by omega, by omega, rfl, Int.le_refl 0, rfl⟩ ?_
  rintro m σ ⟨i, hi, rfl, hpre, hlast, rfl⟩
  by_cases hlt : i < rs.length
  case neg =>
    rw [hpre, List.drop_eq_nil_of_le (by omega)]
    (refine LWP.seq <| rgN <| klt rfl rfl (decide_eq_false (by omega)) <| RunK.nil <| LWP.seq <| LWP.condF rfl ?_; refine LWP.exit <| LWP.seq <| rgN <| kas rfl <| RunK.nil <| LWP.ret ?_)
    exact ⟨[_], ⟨rfl, trivial⟩, rfl⟩
  obtain ⟨r, hr⟩ : ∃ r, rs[i]? = some r := ⟨_, List.getElem?_eq_getElem hlt⟩
  obtain ⟨blk, off, arr, el, fr, ead, ecap, rfl, hX, hsiz, hcs, g1, g2, g3, hE⟩ := hin.get hr
  have hio : off + Int.toNat (i : Int) * 3 = off + i * 3 := by simp
  obtain ⟨hz1, hz2⟩ := hsz r (List.mem_of_getElem? hr)
  have hR := kCheckRule X r ead ecap hE (by omega) hz2 (lastR rs i) hlast
  rw [drop_at hr, chkRs_cons] at hpre
  by_cases he : chkR r (lastR rs i) = 0
  · rw [if_pos he] at hpre
    have hgt := (chkR_zero he).2.2.1
    rw [he] at hR
    have hnl := lastR_at hr
    have hadd : IntKind.i64.wrap (((i : Nat) : Int) + 1) = ((i + 1 : Nat) : Int) := by rw [wrap_i64 (by omega)]; omega
    (refine LWP.seq <| rgN <| klt rfl rfl (decide_eq_true (by omega)) <| RunK.nil <| LWP.seq <| LWP.condT rfl ?_; refine LWP.skip ?_; refine LWP.seq <| LWP.block <| LWP.seq <| rgN <| K.indexX rfl rfl SliceT.h (by omega) hio .plain <| K.loadXagg rfl hX (by kernel_rfl) hsiz hcs .plain <| K.alloc rfl .plain ?_; refine K.storeAll rfl rfl rfl rfl rfl rfl .plain ?_; refine RunK.nil <| LWP.seq <| LWP.seq <| rgN <| K.loadAll rfl rfl rfl .plain ?_; refine kmv rfl <| kca rfl rfl hR <| kas rfl <| RunK.nil <| LWP.seq <| rgN <| kmv rfl <| kne rfl rfl (r := false) rfl <| RunK.nil <| LWP.condF rfl ?_; refine LWP.skip ?_; refine rgN <| kfa rfl rfl ?_; refine kl1 rfl rfl rfl <| kas rfl <| RunK.nil <| rgN <| kad rfl rfl hadd <| kmv rfl <| RunK.nil ?_)
    rw [← hnl] at hpre hgt ⊢
    exact ⟨_, ⟨[(3, Ln .i64 (lastR rs (i + 1))), (18, Lx (some ⟨blk, off, none⟩) rs.length cap), (19, Ln .i64 (rs.length : Nat)), (20, Ln .i64 (i + 1 : Nat))], [], X⟩, by omega, Le.of (by exact ⟨rfl, rfl, rfl, rfl, trivial⟩) (by exact trivial) (by exact rfl) (by exact rfl) (by repeat' (first | refine all_cons_true ?_ ?_ | rfl | exact bytes_inUse | exact vals_inUse | exact mid_inUse rfl)), i + 1, by omega, rfl, hpre, by omega, rfl⟩
  · rw [if_neg he] at hpre
    rw [hpre]
    have hne : (chkR r (lastR rs i) != 0) = true := by rw [bne_iff_ne]; exact he
    generalize chkR r (lastR rs i) = ce at *
    (refine LWP.seq <| rgN <| klt rfl rfl (decide_eq_true (by omega)) <| RunK.nil <| LWP.seq <| LWP.condT rfl ?_; refine LWP.skip ?_; refine LWP.seq <| LWP.block <| LWP.seq <| rgN <| K.indexX rfl rfl SliceT.h (by omega) hio .plain <| K.loadXagg rfl hX (by kernel_rfl) hsiz hcs .plain <| K.alloc rfl .plain ?_; refine K.storeAll rfl rfl rfl rfl rfl rfl .plain ?_; refine RunK.nil <| LWP.seq <| LWP.seq <| rgN <| K.loadAll rfl rfl rfl .plain ?_; refine kmv rfl <| kca rfl rfl hR <| kas rfl <| RunK.nil <| LWP.seq <| rgN <| kmv rfl <| kne rfl rfl hne <| RunK.nil <| LWP.condT rfl ?_; refine LWP.seq <| rgN <| kmv rfl <| kas rfl <| RunK.nil <| LWP.ret ?_)
    exact ⟨[_], ⟨rfl, trivial⟩, rfl⟩
end Go.Proofs.YtopiioklkkiedaaGreatDoor
end
section
namespace Go.Proofs.YtopiioklkkiedaaGreatDoor
open Go Go.Lg Go.Lg.Fld
set_option maxRecDepth 100000
abbrev Ext (X Y : Nat → Option Obj) : Prop := ∀ b o, X b = some o → Y b = some o
variable (X : Nat → Option Obj)
end Go.Proofs.YtopiioklkkiedaaGreatDoor
end
section
namespace Go.Proofs.YtopiioklkkiedaaGreatDoor
open Go Go.Lg Go.Lg.Fld
set_option maxRecDepth 100000
theorem unpErr_facts {fs : List Fl} {s : List UInt8} (h : unpErr fs s = 0) : layErr fs = 0 ∧ s.length = rowSize fs ∧ readOk (elemsAt 0 fs) s = true ∧ packB fs ((unpZ fs s).map qn) = s := by
  unfold unpErr at h
  split at h
  · rename_i h0
    split at h
    · rename_i h1
      unfold unpOk at h1
      simp only [Bool.and_eq_true, decide_eq_true_eq, beq_iff_eq] at h1
      exact ⟨h0, h1.1, h1.2.1, h1.2.2⟩
    · cases h
  · contradiction
theorem unp_R {fs : List Fl} {s : List UInt8} (h : unpErr fs s = 0) : ∀ z ∈ unpZ fs s, R127 z := by
  obtain ⟨hl, hn, _, _⟩ := unpErr_facts h
  obtain ⟨_, hall, _⟩ := layErr_facts hl
  intro z hz
  obtain ⟨e, he, rfl⟩ := List.mem_map.1 hz
  exact (read_R (within_row hall) hn he).2
theorem unpZ_len {fs : List Fl} {s : List UInt8} (h : unpErr fs s = 0) : (unpZ fs s).length ≤ 64 := by
  obtain ⟨hl, _, _, _⟩ := unpErr_facts h
  obtain ⟨h8, hall, _⟩ := layErr_facts hl
  have := elems_len fs 0 hall
  simp only [unpZ, List.length_map]; omega
variable (X : Nat → Option Obj)
end Go.Proofs.YtopiioklkkiedaaGreatDoor
end
section
namespace Go.Proofs.YtopiioklkkiedaaGreatDoor
open Go Go.Lg Go.Lg.Fml Go.Lg.Fld Go.Lg.Arith
set_option maxRecDepth 100000
def RowV (Y : Nat → Option Obj) (vs : List Value) (fs : List (List Nm)) : Prop := vs.length = fs.length ∧ ∀ (i : Nat) (r : List Nm), fs[i]? = some r → ∃ (ad : Option Addr) (cap : Nat), vs[i]? = some (.slice ad r.length cap) ∧ NumsIn Y ad r
variable (X : Nat → Option Obj)
end Go.Proofs.YtopiioklkkiedaaGreatDoor
end
section
namespace Go.Proofs.YtopiioklkkiedaaGreatDoor
open Go Go.Lg Go.Lg.Fml Go.Lg.Fld Go.Lg.Arith
set_option maxRecDepth 100000
theorem firstE_shift {f : Nat → Int} : ∀ n i, firstE f (i + 1) n = firstE (fun j => f (j + 1)) i n
  | 0, _ => rfl
  | n + 1, i => by
    show (if f (i + 1) = 0 then firstE f (i + 1 + 1) n else f (i + 1)) = (if f (i + 1) = 0 then firstE (fun j => f (j + 1)) (i + 1) n else f (i + 1))
    rw [firstE_shift n (i + 1)]
theorem seqE_cons {α : Type} {g : α → Int} {x : α} {t : List α} : seqE g (x :: t) = if g x = 0 then seqE g t else g x := by
  show (if atE g (x :: t) 0 = 0 then firstE (atE g (x :: t)) (0 + 1) t.length else atE g (x :: t) 0) = _
  rw [firstE_shift]
  rfl
theorem seqE_uses {fs : List Fl} {f : Fl} : ∀ l : List Ins, seqE (findE fs f) (usesX l) = seqE (findE fs f) l
  | [] => rfl
  | x :: t => by
    have ih := seqE_uses (fs := fs) (f := f) t
    have h1 : usesX (x :: t) = if (x.op == 2 || x.op == 3) = true then x :: usesX t else usesX t := List.filter_cons
    rw [h1, seqE_cons]
    by_cases h : x.op = 2 ∨ x.op = 3
    · rw [if_pos (by simpa using h), seqE_cons, ih]
    · rw [if_neg (by simpa using h), findE_skip h, if_pos rfl, ih]
theorem uses_mem {l : List Ins} {x : Ins} (h : x ∈ usesX l) : x ∈ l ∧ (x.op = 2 ∨ x.op = 3) := by
  unfold usesX at h
  rw [List.mem_filter] at h
  exact ⟨h.1, by simpa using h.2⟩
def hdB : List Ins → Bool
  | [x] => x.op == 2 || x.op == 3 || (x.op == 1 && decide (x.k = (false, 0)))
  | _ => false
theorem refE_hd {f : Fl} {l : List Ins} (h : chkX l = 0) : refE f l = if f.kind = 10 ∧ hdB l = false then 8 else 0 := by
  match l, h with
  | [], h => exact absurd rfl (chkX_ne h)
  | [x], h =>
    have hd := (chkX_zero h).2
    have ho := (okI_facts (chkX_ok h x (List.mem_singleton.2 rfl))).1
    have ht : takes x.op = 0 := by
      by_cases e : takes x.op = 0
      · exact e
      · exfalso
        unfold dep at hd
        rw [if_neg (by omega)] at hd
        cases hd
    have h4 : x.op ≤ 4 := by
      unfold takes at ht
      by_cases e : x.op ≤ 4
      · exact e
      · exfalso
        by_cases a1 : x.op = 16
        · rw [if_pos a1] at ht; cases ht
        · rw [if_neg a1] at ht
          by_cases a2 : x.op = 10 ∨ x.op = 15
          · rw [if_pos a2] at ht; cases ht
          · rw [if_neg a2, if_pos (by omega)] at ht; cases ht
    show (if f.kind = 10 ∧ (x.op = 4 ∨ (x.op = 1 ∧ x.k ≠ (false, 0))) then (8 : Int) else 0) = if f.kind = 10 ∧ (x.op == 2 || x.op == 3 || (x.op == 1 && decide (x.k = (false, 0)))) = false then 8 else 0
    have hi : (x.op = 4 ∨ (x.op = 1 ∧ x.k ≠ (false, 0))) ↔ (x.op == 2 || x.op == 3 || (x.op == 1 && decide (x.k = (false, 0)))) = false := by
      by_cases hk : x.k = (false, 0)
      · simp [hk]; omega
      · simp [hk]; omega
    by_cases hf : f.kind = 10
    · by_cases hb : x.op = 4 ∨ (x.op = 1 ∧ x.k ≠ (false, 0))
      · rw [if_pos ⟨hf, hb⟩, if_pos ⟨hf, hi.1 hb⟩]
      · rw [if_neg (fun h => hb h.2), if_neg (fun h => hb (hi.2 h.2))]
    · rw [if_neg (fun h => hf h.1), if_neg (fun h => hf h.1)]
  | x :: y :: t, h =>
    show (if f.kind = 10 then (8 : Int) else 0) = if f.kind = 10 ∧ hdB (x :: y :: t) = false then 8 else 0
    by_cases hf : f.kind = 10
    · rw [if_pos hf, if_pos ⟨hf, rfl⟩]
    · rw [if_neg hf, if_neg (fun h => hf h.1)]
abbrev Ax (x : Ins) : LV := .sv (.agg ((insV x).map CV.val))
def heB (g f : Fl) (x : Ins) : Bool := if x.op = 2 then decide (x.b < g.count) else decide (f.count ≤ g.count)
variable (X : Nat → Option Obj)
theorem yIsRef (f : Fl) : PSpec Tryz.prog X 141 [Fx f] (Lb (decide (f.kind = 10))) := by
  refine PSpec.intro Tryz.func141 rfl (by kernel_rfl) rfl rfl ?_
  intro C
  (refine LWP.seq <| rgN <| K.box rfl rfl rfl .plain <| kas rfl <| RunK.nil <| LWP.seq <| rgN <| kfa rfl rfl ?_; refine kl1 rfl rfl rfl <| keq rfl rfl (r := decide (f.kind = 10)) (beq_dec f.kind 10) <| kas rfl <| RunK.nil <| LWP.ret ?_)
  exact ⟨[_], ⟨rfl, trivial⟩, rfl⟩
theorem yHas (g f : Fl) (x : Ins) : PSpec Tryz.prog X 176 [Fx g, Fx f, Ax x] (Lb (heB g f x)) := by
  refine PSpec.intro Tryz.func176 rfl (by kernel_rfl) rfl rfl ?_
  intro C
  unfold heB
  by_cases c2 : x.op = 2
  · rw [if_pos c2]
    (refine LWP.seq <| rgN <| K.box rfl rfl rfl .plain <| K.box rfl rfl rfl .plain <| K.box rfl rfl rfl .plain <| kas rfl <| RunK.nil <| LWP.seq <| LWP.seq <| rgN <| kfa rfl rfl ?_; refine kl1 rfl rfl rfl <| keq rfl rfl (r := true) (beq_iff_eq.2 c2) <| RunK.nil <| LWP.condT rfl ?_; refine LWP.seq <| rgN <| kfa rfl rfl ?_; refine kl1 rfl rfl rfl <| kfa rfl rfl ?_; refine kl1 rfl rfl rfl <| klt rfl rfl rfl <| kas rfl <| RunK.nil <| LWP.ret ?_)
    exact ⟨[_], ⟨rfl, trivial⟩, rfl⟩
  · rw [if_neg c2]
    (refine LWP.seq <| rgN <| K.box rfl rfl rfl .plain <| K.box rfl rfl rfl .plain <| K.box rfl rfl rfl .plain <| kas rfl <| RunK.nil <| LWP.seq <| LWP.seq <| rgN <| kfa rfl rfl ?_; refine kl1 rfl rfl rfl <| keq rfl rfl (r := false) (beq_eq_false_iff_ne.2 c2) <| RunK.nil <| LWP.condF rfl ?_; refine LWP.skip ?_; refine LWP.seq <| rgN <| kfa rfl rfl ?_; refine kl1 rfl rfl rfl <| kfa rfl rfl ?_; refine kl1 rfl rfl rfl <| K.geq rfl rfl rfl .plain <| kas rfl <| RunK.nil <| LWP.ret ?_)
    exact ⟨[_], ⟨rfl, trivial⟩, rfl⟩
theorem yUse (c : Cp) (f : Fl) (x : Ins) (cad : Option Addr) (ccap : Nat) (hF : FieldsIn X cad c.fs) (hfl : c.fs.length < 4611686018427387904) (h23 : x.op = 2 ∨ x.op = 3) (ha0 : 0 ≤ x.a) :
    PSpec Tryz.prog X 135 [Cx c cad ccap, Fx f, Ax x] (Ln .i64 (findE c.fs f x)) := by
  refine PSpec.intro Tryz.func135 rfl (by kernel_rfl) rfl rfl ?_
  intro C
  cases hg : c.fs[x.a.toNat]? with
  | none =>
    have hge := List.getElem?_eq_none_iff.1 hg
    rw [findE_out h23 hg]
    (refine LWP.seq <| rgN <| K.box rfl rfl rfl .plain <| K.box rfl rfl rfl .plain <| K.box rfl rfl rfl .plain <| kas rfl <| RunK.nil <| LWP.seq <| LWP.seq <| rgN <| kfa rfl rfl ?_; refine kl1 rfl rfl rfl <| kfa rfl rfl ?_; refine kl1 rfl rfl rfl <| K.lenX rfl SliceT.h rfl .plain ?_; refine K.geq rfl rfl (decide_eq_true (by omega)) .plain <| RunK.nil <| LWP.condT rfl ?_; refine LWP.seq <| rgN <| kas rfl <| RunK.nil <| LWP.ret ?_)
    exact ⟨[_], ⟨rfl, trivial⟩, rfl⟩
  | some g =>
  have hlg := (List.getElem?_eq_some_iff.1 hg).1
  have hE := findE_at (f := f) h23 hg
  obtain ⟨fb, fo, farr, fel, ffr, rfl, hFX, hFz, hFc, _⟩ := hF.cells hg
  have hio3 : fo + Int.toNat x.a * 3 = fo + x.a.toNat * 3 := rfl
  have hH := yHas X g f x
  cases hb : heB g f x with
  | false =>
    rw [hb] at hH
    have h3 : (x.op = 2 ∧ g.count ≤ x.b) ∨ (x.op = 3 ∧ g.count < f.count) := by
      unfold heB at hb
      by_cases c2 : x.op = 2
      · rw [if_pos c2] at hb
        have := of_decide_eq_false hb
        exact .inl ⟨c2, by omega⟩
      · rw [if_neg c2] at hb
        have := of_decide_eq_false hb
        exact .inr ⟨by omega, by omega⟩
    rw [if_pos h3] at hE
    rw [hE]
    (refine LWP.seq <| rgN <| K.box rfl rfl rfl .plain <| K.box rfl rfl rfl .plain <| K.box rfl rfl rfl .plain <| kas rfl <| RunK.nil <| LWP.seq <| LWP.seq <| rgN <| kfa rfl rfl ?_; refine kl1 rfl rfl rfl <| kfa rfl rfl ?_; refine kl1 rfl rfl rfl <| K.lenX rfl SliceT.h rfl .plain ?_; refine K.geq rfl rfl (decide_eq_false (by omega)) .plain <| RunK.nil <| LWP.condF rfl ?_; refine LWP.skip ?_; refine LWP.seq <| rgN <| kfa rfl rfl ?_; refine kl1 rfl rfl rfl <| kfa rfl rfl ?_; refine kl1 rfl rfl rfl <| K.indexX rfl rfl SliceT.h (by omega) hio3 .plain <| K.loadXagg rfl hFX (by kernel_rfl) hFz hFc .plain <| K.alloc rfl .plain ?_; refine K.storeAll rfl rfl rfl rfl rfl rfl .plain ?_; refine RunK.nil <| LWP.seq <| LWP.block <| LWP.seq <| rgN <| K.loadAll rfl rfl rfl .plain ?_; refine K.loadAll rfl rfl rfl .plain ?_; refine K.loadAll rfl rfl rfl .plain ?_; refine kca rfl rfl hH <| K.not rfl rfl .plain <| kas rfl <| RunK.nil <| LWP.condT rfl ?_; refine LWP.seq <| rgN <| kas rfl <| RunK.nil <| LWP.ret ?_)
    exact ⟨[_], ⟨rfl, trivial⟩, rfl⟩
  | true =>
  rw [hb] at hH
  have h3 : ¬((x.op = 2 ∧ g.count ≤ x.b) ∨ (x.op = 3 ∧ g.count < f.count)) := by
    unfold heB at hb
    by_cases c2 : x.op = 2
    · rw [if_pos c2] at hb
      have := of_decide_eq_true hb
      omega
    · rw [if_neg c2] at hb
      have := of_decide_eq_true hb
      omega
  rw [if_neg h3] at hE
  have hg1 := yIsRef X g
  have hg2 := yIsRef X f
  by_cases hk : (g.kind = 10) = (f.kind = 10)
  · rw [if_pos hk] at hE
    rw [hE]
    have hn : (decide (g.kind = 10) != decide (f.kind = 10)) = false := by simp [hk]
    (refine LWP.seq <| rgN <| K.box rfl rfl rfl .plain <| K.box rfl rfl rfl .plain <| K.box rfl rfl rfl .plain <| kas rfl <| RunK.nil <| LWP.seq <| LWP.seq <| rgN <| kfa rfl rfl ?_; refine kl1 rfl rfl rfl <| kfa rfl rfl ?_; refine kl1 rfl rfl rfl <| K.lenX rfl SliceT.h rfl .plain ?_; refine K.geq rfl rfl (decide_eq_false (by omega)) .plain <| RunK.nil <| LWP.condF rfl ?_; refine LWP.skip ?_; refine LWP.seq <| rgN <| kfa rfl rfl ?_; refine kl1 rfl rfl rfl <| kfa rfl rfl ?_; refine kl1 rfl rfl rfl <| K.indexX rfl rfl SliceT.h (by omega) hio3 .plain <| K.loadXagg rfl hFX (by kernel_rfl) hFz hFc .plain <| K.alloc rfl .plain ?_; refine K.storeAll rfl rfl rfl rfl rfl rfl .plain ?_; refine RunK.nil <| LWP.seq <| LWP.block <| LWP.seq <| rgN <| K.loadAll rfl rfl rfl .plain ?_; refine K.loadAll rfl rfl rfl .plain ?_; refine K.loadAll rfl rfl rfl .plain ?_; refine kca rfl rfl hH <| K.not rfl rfl .plain <| kas rfl <| RunK.nil <| LWP.condF rfl ?_; refine LWP.seq <| rgD mixed <| K.loadAll rfl rfl rfl .plain ?_; refine kca rfl rfl hg1 <| K.loadAll rfl rfl rfl .plain ?_; refine kca rfl rfl hg2 <| K.neqB rfl rfl hn .plain <| kas rfl <| RunK.nil <| rgA ?_; refine LWP.condF rfl ?_; refine LWP.skip ?_; refine LWP.seq <| rgN <| kas rfl <| RunK.nil <| LWP.ret ?_)
    exact ⟨[_], ⟨rfl, trivial⟩, rfl⟩
  · rw [if_neg hk] at hE
    rw [hE]
    have hn : (decide (g.kind = 10) != decide (f.kind = 10)) = true := by
      rw [bne_iff_ne]
      intro h
      exact hk (by simpa using h)
    (refine LWP.seq <| rgN <| K.box rfl rfl rfl .plain <| K.box rfl rfl rfl .plain <| K.box rfl rfl rfl .plain <| kas rfl <| RunK.nil <| LWP.seq <| LWP.seq <| rgN <| kfa rfl rfl ?_; refine kl1 rfl rfl rfl <| kfa rfl rfl ?_; refine kl1 rfl rfl rfl <| K.lenX rfl SliceT.h rfl .plain ?_; refine K.geq rfl rfl (decide_eq_false (by omega)) .plain <| RunK.nil <| LWP.condF rfl ?_; refine LWP.skip ?_; refine LWP.seq <| rgN <| kfa rfl rfl ?_; refine kl1 rfl rfl rfl <| kfa rfl rfl ?_; refine kl1 rfl rfl rfl <| K.indexX rfl rfl SliceT.h (by omega) hio3 .plain <| K.loadXagg rfl hFX (by kernel_rfl) hFz hFc .plain <| K.alloc rfl .plain ?_; refine K.storeAll rfl rfl rfl rfl rfl rfl .plain ?_; refine RunK.nil <| LWP.seq <| LWP.block <| LWP.seq <| rgN <| K.loadAll rfl rfl rfl .plain ?_; refine K.loadAll rfl rfl rfl .plain ?_; refine K.loadAll rfl rfl rfl .plain ?_; refine kca rfl rfl hH <| K.not rfl rfl .plain <| kas rfl <| RunK.nil <| LWP.condF rfl ?_; refine LWP.seq <| rgD mixed <| K.loadAll rfl rfl rfl .plain ?_; refine kca rfl rfl hg1 <| K.loadAll rfl rfl rfl .plain ?_; refine kca rfl rfl hg2 <| K.neqB rfl rfl hn .plain <| kas rfl <| RunK.nil <| rgA ?_; refine LWP.condT rfl ?_; refine LWP.seq <| rgN <| kas rfl <| RunK.nil <| LWP.ret ?_)
    exact ⟨[_], ⟨rfl, trivial⟩, rfl⟩
theorem yIsHandle (l : List Ins) (ad : Option Addr) (cap : Nat) (hin : InsIn X ad l) (hl : l.length < 4611686018427387904) :
    PSpec Tryz.prog X 142 [Lx ad l.length cap] (Lb (hdB l)) := by
  refine PSpec.intro Tryz.func142 rfl (by kernel_rfl) rfl rfl ?_
  intro C
  by_cases h1 : l.length = 1
  case neg =>
    have hr : hdB l = false := by
      unfold hdB
      split
      · exact absurd rfl h1
      · rfl
    rw [hr]
    (refine LWP.seq <| rgN <| kas rfl <| RunK.nil <| LWP.seq <| LWP.seq <| rgN <| kmv rfl <| K.lenX rfl SliceT.h rfl .plain ?_; refine kne rfl rfl (r := true) (bne_iff_ne.2 (by omega)) <| RunK.nil <| LWP.condT rfl ?_; refine LWP.seq <| rgN <| kas rfl <| RunK.nil <| LWP.ret ?_)
    exact ⟨[_], ⟨rfl, trivial⟩, rfl⟩
  obtain ⟨x, hx⟩ : ∃ x, l[0]? = some x := ⟨_, List.getElem?_eq_getElem (by omega)⟩
  have hl1 : l = [x] := by
    match l, h1, hx with
    | [y], _, hx => simp only [List.getElem?_cons_zero, Option.some.injEq] at hx; rw [hx]
  obtain ⟨blk, off, arr, el, fr, rfl, hX, hsz, hcs, g0, g1, g2, g3⟩ := hin.six hx
  obtain ⟨_, _, _, hk2⟩ := hin.small x (List.mem_of_getElem? hx)
  have h00 : off + Int.toNat 0 * 6 = off + 0 * 6 := by simp
  have hr : hdB l = (x.op == 2 || x.op == 3 || (x.op == 1 && decide (x.k = (false, 0)))) := by rw [hl1]; rfl
  rw [hr]
  clear hr hl1
  by_cases c2 : x.op = 2
  · have e : (x.op == 2 || x.op == 3 || (x.op == 1 && decide (x.k = (false, 0)))) = true := by rw [c2]; rfl
    rw [e]
    (refine LWP.seq <| rgN <| kas rfl <| RunK.nil <| LWP.seq <| LWP.seq <| rgN <| kmv rfl <| K.lenX rfl SliceT.h rfl .plain ?_; refine kne rfl rfl (r := false) (bne_eq_false_iff_eq.2 (by omega)) <| RunK.nil <| LWP.condF rfl ?_; refine LWP.skip ?_; refine LWP.seq <| LWP.seq <| rgN <| kmv rfl <| K.indexX rfl rfl SliceT.h (by omega) h00 .plain <| K.loadXagg rfl hX (by kernel_rfl) hsz hcs .plain <| K.alloc rfl .plain ?_; refine K.storeAll rfl rfl rfl rfl rfl rfl .plain ?_; refine RunK.nil <| LWP.seq <| rgN <| kfa rfl rfl ?_; refine kl1 rfl rfl rfl <| RunK.nil <| LWP.block <| LWP.seq <| LWP.seq <| rgN <| keq rfl rfl (r := true) (beq_iff_eq.2 c2) <| kas rfl <| RunK.nil <| LWP.condT rfl ?_; refine LWP.skip ?_; refine LWP.condT rfl ?_; refine LWP.seq <| rgN <| kas rfl <| RunK.nil <| LWP.ret ?_)
    exact ⟨[_], ⟨rfl, trivial⟩, rfl⟩
  by_cases c3 : x.op = 3
  · have e : (x.op == 2 || x.op == 3 || (x.op == 1 && decide (x.k = (false, 0)))) = true := by rw [c3]; rfl
    rw [e]
    (refine LWP.seq <| rgN <| kas rfl <| RunK.nil <| LWP.seq <| LWP.seq <| rgN <| kmv rfl <| K.lenX rfl SliceT.h rfl .plain ?_; refine kne rfl rfl (r := false) (bne_eq_false_iff_eq.2 (by omega)) <| RunK.nil <| LWP.condF rfl ?_; refine LWP.skip ?_; refine LWP.seq <| LWP.seq <| rgN <| kmv rfl <| K.indexX rfl rfl SliceT.h (by omega) h00 .plain <| K.loadXagg rfl hX (by kernel_rfl) hsz hcs .plain <| K.alloc rfl .plain ?_; refine K.storeAll rfl rfl rfl rfl rfl rfl .plain ?_; refine RunK.nil <| LWP.seq <| rgN <| kfa rfl rfl ?_; refine kl1 rfl rfl rfl <| RunK.nil <| LWP.block <| LWP.seq <| LWP.seq <| rgN <| keq rfl rfl (r := false) (beq_eq_false_iff_ne.2 c2) <| kas rfl <| RunK.nil <| LWP.condF rfl ?_; refine rgN <| keq rfl rfl (r := true) (beq_iff_eq.2 c3) <| kas rfl <| RunK.nil <| LWP.condT rfl ?_; refine LWP.seq <| rgN <| kas rfl <| RunK.nil <| LWP.ret ?_)
    exact ⟨[_], ⟨rfl, trivial⟩, rfl⟩
  have e : (x.op == 2 || x.op == 3 || (x.op == 1 && decide (x.k = (false, 0)))) = (x.op == 1 && decide (x.k = (false, 0))) := by
    rw [beq_eq_false_iff_ne.2 c2, beq_eq_false_iff_ne.2 c3]; rfl
  rw [e]
  by_cases c1 : x.op = 1
  · rw [beq_iff_eq.2 c1, Bool.true_and]
    obtain ⟨op, a, b, kb, kN⟩ := x
    simp only at hk2 g0 g1 g2 g3 hcs c2 c3 c1 ⊢
    have q := eqI (b := kb) (b' := false) (h := kN / 18446744073709551616) (h' := 0) (l := kN % 18446744073709551616) (l' := 0) _ (eqZ hk2)
    (refine LWP.seq <| rgN <| kas rfl <| RunK.nil <| LWP.seq <| LWP.seq <| rgN <| kmv rfl <| K.lenX rfl SliceT.h rfl .plain ?_; refine kne rfl rfl (r := false) (bne_eq_false_iff_eq.2 (by omega)) <| RunK.nil <| LWP.condF rfl ?_; refine LWP.skip ?_; refine LWP.seq <| LWP.seq <| rgN <| kmv rfl <| K.indexX rfl rfl SliceT.h (by omega) h00 .plain <| K.loadXagg rfl hX (by kernel_rfl) hsz hcs .plain <| K.alloc rfl .plain ?_; refine K.storeAll rfl rfl rfl rfl rfl rfl .plain ?_; refine RunK.nil <| LWP.seq <| rgN <| kfa rfl rfl ?_; refine kl1 rfl rfl rfl <| RunK.nil <| LWP.block <| LWP.seq <| LWP.seq <| rgN <| keq rfl rfl (r := false) (beq_eq_false_iff_ne.2 c2) <| kas rfl <| RunK.nil <| LWP.condF rfl ?_; refine rgN <| keq rfl rfl (r := false) (beq_eq_false_iff_ne.2 c3) <| kas rfl <| RunK.nil <| LWP.condF rfl ?_; refine LWP.seq <| rgN <| keq rfl rfl (r := true) (beq_iff_eq.2 c1) <| kas rfl <| RunK.nil <| LWP.condT rfl ?_; refine LWP.seq <| rgN <| kfa rfl rfl ?_; refine K.loadPart rfl rfl rfl (by exact nl3 rfl rfl rfl rfl) .plain ?_; refine K.build rfl rfl (by exact rfl) (by exact nl3 rfl rfl rfl rfl) .plain ?_; refine K.aggEq rfl rfl rfl rfl (by kernel_rfl) q (.inl ⟨rfl, rfl⟩) .plain <| kas rfl <| RunK.nil <| LWP.ret ?_)
    exact ⟨[_], ⟨rfl, trivial⟩, rfl⟩
  · rw [beq_eq_false_iff_ne.2 c1, Bool.false_and]
    (refine LWP.seq <| rgN <| kas rfl <| RunK.nil <| LWP.seq <| LWP.seq <| rgN <| kmv rfl <| K.lenX rfl SliceT.h rfl .plain ?_; refine kne rfl rfl (r := false) (bne_eq_false_iff_eq.2 (by omega)) <| RunK.nil <| LWP.condF rfl ?_; refine LWP.skip ?_; refine LWP.seq <| LWP.seq <| rgN <| kmv rfl <| K.indexX rfl rfl SliceT.h (by omega) h00 .plain <| K.loadXagg rfl hX (by kernel_rfl) hsz hcs .plain <| K.alloc rfl .plain ?_; refine K.storeAll rfl rfl rfl rfl rfl rfl .plain ?_; refine RunK.nil <| LWP.seq <| rgN <| kfa rfl rfl ?_; refine kl1 rfl rfl rfl <| RunK.nil <| LWP.block <| LWP.seq <| LWP.seq <| rgN <| keq rfl rfl (r := false) (beq_eq_false_iff_ne.2 c2) <| kas rfl <| RunK.nil <| LWP.condF rfl ?_; refine rgN <| keq rfl rfl (r := false) (beq_eq_false_iff_ne.2 c3) <| kas rfl <| RunK.nil <| LWP.condF rfl ?_; refine LWP.seq <| rgN <| keq rfl rfl (r := false) (beq_eq_false_iff_ne.2 c1) <| kas rfl <| RunK.nil <| LWP.condF rfl ?_; refine LWP.skip ?_; refine LWP.seq <| rgN <| kas rfl <| RunK.nil <| LWP.ret ?_)
    exact ⟨[_], ⟨rfl, trivial⟩, rfl⟩
set_option maxHeartbeats 6400000 in
theorem yFormula (c : Cp) (f : Fl) (l : List Ins) (cad ad : Option Addr) (ccap cap : Nat) (hF : FieldsIn X cad c.fs) (hin : InsIn X ad l) (hbig : l.length < 1152921504606846976) (hfl : c.fs.length < 4611686018427387904) :
    PSpec Tryz.prog X 102 [Cx c cad ccap, Fx f, Lx ad l.length cap] (Ln .i64 (fmE c.fs f l)) := by
  have hC := gCheck X l ad cap hin hbig
  refine PSpec.intro Tryz.func102 rfl (by kernel_rfl) rfl rfl ?_
  intro C
  unfold fmE
  by_cases h0 : chkX l = 0
  case neg =>
    rw [if_neg h0]
    generalize chkX l = e at *
    (refine LWP.seq <| rgN <| K.box rfl rfl rfl .plain <| K.box rfl rfl rfl .plain <| kas rfl <| RunK.nil <| LWP.seq <| LWP.seq <| rgN <| kmv rfl <| kca rfl rfl hC <| kas rfl <| RunK.nil <| LWP.seq ?_; refine rgN <| kmv rfl <| kne rfl rfl (bne_iff_ne.2 h0) <| RunK.nil <| LWP.condT rfl ?_; refine LWP.seq <| rgN <| kmv rfl <| kas rfl <| RunK.nil <| LWP.ret ?_)
    exact ⟨[_], ⟨rfl, trivial⟩, rfl⟩
  rw [h0] at hC
  have hchk := chkX_ok h0
  have h64 := (chkX_zero h0).1
  have hU := gUses' X l ad cap hin (by omega)
  have hul := uses_le l
  rw [if_pos h0, refE_hd h0, ← seqE_uses (fs := c.fs) (f := f) l]
  (refine LWP.seq <| rgN <| K.box rfl rfl rfl .plain <| K.box rfl rfl rfl .plain <| kas rfl <| RunK.nil <| LWP.seq <| LWP.seq <| rgN <| kmv rfl <| kca rfl rfl hC <| kas rfl <| RunK.nil <| LWP.seq ?_; refine rgN <| kmv rfl <| kne rfl rfl (r := false) rfl <| RunK.nil <| LWP.condF rfl ?_; refine LWP.skip ?_; refine LWP.seq <| LWP.seq <| rgN <| kmv rfl <| K.callMp [(1000001, 601)] (.sv (.one (.slc 601 0 (usesX l).length 6))) [(601, some ⟨88, (inssV (usesX l)).map .val, true⟩)] (hU) rfl rfl (by exact trivial) rfl rfl rfl rfl rfl (by exact (.box rfl (Box.ren_vals _ _ _ _) .nil)) .plain <| K.lenSlc rfl SliceT.h rfl .plain ?_; refine kmv rfl <| RunK.nil <| LWP.block ?_)
  refine LWP.le (σ' := ⟨[(17, .sv (.one (.slc 601 0 (usesX l).length 6))), (2, Lx ad l.length cap), (3, Lp 3), (4, Lp 4), (18, Ln .i64 ((usesX l).length : Nat)), (19, Ln .i64 0)], [(601, some ⟨88, (inssV (usesX l)).map .val, true⟩), flB 4 f, cpB 3 c cad ccap], X⟩) (Le.of (by exact ⟨rfl, rfl, rfl, rfl, rfl, rfl, trivial⟩) (by exact ⟨rfl, rfl, rfl, trivial⟩) (by exact rfl) (by exact rfl) (by repeat' (first | refine all_cons_true ?_ ?_ | rfl | exact bytes_inUse | exact vals_inUse | exact mid_inUse rfl))) ?_
  refine LWP.freeze rfl rfl rfl fun ub uc ua uf hn _ _ _ hsp => ?_
  have hum : ∀ x ∈ usesX l, smallI x := fun x hx => hin.small x (uses_mem hx).1
  have hUI := ins_in (withBlock_at X ub (.cells ua 88 uf)) hum hsp
  have hXY := withBlock_old (o := .cells ua 88 uf) hn
  replace hF := hF.mono hXY
  have hH := yIsHandle _ l ad cap (hin.mono hXY) (by omega)
  have huse : ∀ x ∈ usesX l, (x.op = 2 ∨ x.op = 3) ∧ 0 ≤ x.a := fun x hx => ⟨(uses_mem hx).2, (okI_facts (hchk x (uses_mem hx).1)).2.2.1.1⟩
  clear hin hC hU hsp hn hchk hum
  generalize withBlock X ub (.cells ua 88 uf) = Y at *
  generalize (some ⟨ub, 0, none⟩ : Option Addr) = uad at *
  generalize usesX l = u at *
  have hR := yIsRef Y f
  refine LWP.loop (fun m σ => ∃ i : Nat, i ≤ u.length ∧ m = u.length - i ∧ (∀ j, 0 ≤ j → j < i → atE (findE c.fs f) u j = 0) ∧ σ = ⟨[(2, Lx ad l.length cap), (3, Lp 3), (4, Lp 4), (17, Lx uad u.length uc), (18, Ln .i64 (u.length : Nat)), (19, Ln .i64 (i : Nat))], [flB 4 f, cpB 3 c cad ccap], Y⟩) u.length
    ⟨_, Le.of (by exact ⟨rfl, rfl, rfl, rfl, rfl, rfl, trivial⟩) (by exact ⟨rfl, rfl, trivial⟩) (by exact rfl) (by exact rfl) (by repeat' (first | refine all_cons_true ?_ ?_ | rfl | exact bytes_inUse | exact vals_inUse | exact mid_inUse rfl)), 0, by omega, by omega, fun j _ hj => absurd hj (by omega), rfl⟩ ?_
  rintro m σ ⟨i, hi, rfl, hpre, rfl⟩
  by_cases hlt : i < u.length
  case neg =>
    have e : i = u.length := by omega
    subst e
    have hs : seqE (findE c.fs f) u = 0 := firstE_none fun j h1 h2 => hpre j h1 (by omega)
    rw [if_pos hs]
    by_cases hk : f.kind = 10
    · rw [decide_eq_true hk] at hR
      cases hd : hdB l with
      | true =>
        rw [hd] at hH
        rw [if_neg (fun h => by cases h.2)]
        (refine LWP.seq <| rgN <| klt rfl rfl (decide_eq_false (by omega)) <| RunK.nil <| LWP.seq <| LWP.condF rfl ?_; refine LWP.exit <| LWP.seq <| LWP.seq <| rgN <| K.loadAll rfl rfl rfl .plain ?_; refine kca rfl rfl hR <| kmv rfl <| gmv rfl rfl rfl <| gca rfl rfl hH rfl rfl <| K.not rfl rfl (.taken rfl rfl) ?_; refine kpt rfl rfl <| RunK.nil <| LWP.condF rfl ?_; refine LWP.skip ?_; refine LWP.seq <| rgN <| kas rfl <| RunK.nil <| LWP.ret ?_)
        exact ⟨[_], ⟨rfl, trivial⟩, rfl⟩
      | false =>
        rw [hd] at hH
        rw [if_pos ⟨hk, rfl⟩]
        (refine LWP.seq <| rgN <| klt rfl rfl (decide_eq_false (by omega)) <| RunK.nil <| LWP.seq <| LWP.condF rfl ?_; refine LWP.exit <| LWP.seq <| LWP.seq <| rgN <| K.loadAll rfl rfl rfl .plain ?_; refine kca rfl rfl hR <| kmv rfl <| gmv rfl rfl rfl <| gca rfl rfl hH rfl rfl <| K.not rfl rfl (.taken rfl rfl) ?_; refine kpt rfl rfl <| RunK.nil <| LWP.condT rfl ?_; refine LWP.seq <| rgN <| kas rfl <| RunK.nil <| LWP.ret ?_)
        exact ⟨[_], ⟨rfl, trivial⟩, rfl⟩
    · rw [decide_eq_false hk] at hR
      rw [if_neg (fun h => hk h.1)]
      (refine LWP.seq <| rgN <| klt rfl rfl (decide_eq_false (by omega)) <| RunK.nil <| LWP.seq <| LWP.condF rfl ?_; refine LWP.exit <| LWP.seq <| LWP.seq <| rgN <| K.loadAll rfl rfl rfl .plain ?_; refine kca rfl rfl hR <| kmv rfl <| RunK.passed rfl rfl rfl <| RunK.passed rfl rfl rfl <| RunK.passed rfl rfl rfl <| kpf rfl rfl <| RunK.nil <| LWP.condF rfl ?_; refine LWP.skip ?_; refine LWP.seq <| rgN <| kas rfl <| RunK.nil <| LWP.ret ?_)
      exact ⟨[_], ⟨rfl, trivial⟩, rfl⟩
  obtain ⟨x, hx⟩ : ∃ x, u[i]? = some x := ⟨_, List.getElem?_eq_getElem hlt⟩
  obtain ⟨blk, off, arr, el, fr, rfl, hX, hsz, hcs, _⟩ := hUI.at hx
  have hio : off + Int.toNat (i : Int) * 6 = off + i * 6 := by simp
  obtain ⟨h23, ha0⟩ := huse x (List.mem_of_getElem? hx)
  have hadd : IntKind.i64.wrap ((i : Int) + 1) = ((i + 1 : Nat) : Int) := by rw [wrap_i64 (by omega)]; omega
  have hq := yUse Y c f x cad ccap hF hfl h23 ha0
  by_cases he : findE c.fs f x = 0
  · rw [he] at hq
    have next : ∀ j, 0 ≤ j → j < i + 1 → atE (findE c.fs f) u j = 0 := fun j h0 hj => by
      by_cases e : j = i
      · rw [e, atE_at hx]; exact he
      · exact hpre j h0 (by omega)
    (refine LWP.seq <| rgN <| klt rfl rfl (decide_eq_true (by omega)) <| RunK.nil <| LWP.seq <| LWP.condT rfl ?_; refine LWP.skip ?_; refine LWP.seq <| LWP.block <| LWP.seq <| rgN <| K.indexX rfl rfl SliceT.h (by omega) hio .plain <| K.loadXagg rfl hX (by kernel_rfl) hsz hcs .plain <| K.alloc rfl .plain ?_; refine K.storeAll rfl rfl rfl rfl rfl rfl .plain ?_; refine RunK.nil <| LWP.seq <| rgN <| K.loadAll rfl rfl rfl .plain ?_; refine K.loadAll rfl rfl rfl .plain ?_; refine K.loadAll rfl rfl rfl .plain ?_; refine kca rfl rfl hq <| kas rfl <| RunK.nil <| LWP.seq <| rgN <| kmv rfl <| kne rfl rfl (r := false) rfl <| RunK.nil <| LWP.condF rfl ?_; refine LWP.skip ?_; refine rgN <| kad rfl rfl hadd <| kmv rfl <| RunK.nil ?_)
    exact ⟨_, _, by omega, Le.of (by exact ⟨rfl, rfl, rfl, rfl, rfl, rfl, trivial⟩) (by exact ⟨rfl, rfl, trivial⟩) (by exact rfl) (by exact rfl) (by repeat' (first | refine all_cons_true ?_ ?_ | rfl | exact bytes_inUse | exact vals_inUse | exact mid_inUse rfl)), i + 1, by omega, rfl, next, rfl⟩
  · have hs : seqE (findE c.fs f) u = findE c.fs f x := firstE_some hpre (Nat.zero_le _) (by omega) (by rw [atE_at hx]) he
    rw [hs, if_neg he]
    generalize findE c.fs f x = e at *
    (refine LWP.seq <| rgN <| klt rfl rfl (decide_eq_true (by omega)) <| RunK.nil <| LWP.seq <| LWP.condT rfl ?_; refine LWP.skip ?_; refine LWP.seq <| LWP.block <| LWP.seq <| rgN <| K.indexX rfl rfl SliceT.h (by omega) hio .plain <| K.loadXagg rfl hX (by kernel_rfl) hsz hcs .plain <| K.alloc rfl .plain ?_; refine K.storeAll rfl rfl rfl rfl rfl rfl .plain ?_; refine RunK.nil <| LWP.seq <| rgN <| K.loadAll rfl rfl rfl .plain ?_; refine K.loadAll rfl rfl rfl .plain ?_; refine K.loadAll rfl rfl rfl .plain ?_; refine kca rfl rfl hq <| kas rfl <| RunK.nil <| LWP.seq <| rgN <| kmv rfl <| kne rfl rfl (bne_iff_ne.2 he) <| RunK.nil <| LWP.condT rfl ?_; refine LWP.seq <| rgN <| kmv rfl <| kas rfl <| RunK.nil <| LWP.ret ?_)
    exact ⟨[_], ⟨rfl, trivial⟩, rfl⟩
end Go.Proofs.YtopiioklkkiedaaGreatDoor
end
section
namespace Go.Proofs.YtopiioklkkiedaaGreatDoor
open Go Go.Lg Go.Lg.Fml Go.Lg.Fld Go.Lg.Arith
set_option maxRecDepth 100000
variable (X : Nat → Option Obj)
set_option maxHeartbeats 6400000 in
theorem yRule (a b : Cp) (r : Rl) (aad bad ead : Option Addr) (acap bcap ecap : Nat) (hA : FieldsIn X aad a.fs) (hB : FieldsIn X bad b.fs) (hE : CodesIn X ead r.ex) (hal : a.fs.length < 4611686018427387904) (hbl : b.fs.length < 4611686018427387904) (hcl : ∀ c ∈ r.ex, c.length < 1152921504606846976) :
    PSpec Tryz.prog X 67 [Cx a aad acap, Cx b bad bcap, .sv (.agg [.val (.int .i64 r.nw), .val (.int .i64 r.old), .val (.slice ead r.ex.length ecap)])] (Ln .i64 (ruE a.fs b.fs r)) := by
  refine PSpec.intro Tryz.func67 rfl (by kernel_rfl) rfl rfl ?_
  intro C
  by_cases h0 : r.old = 0
  · rw [show ruE a.fs b.fs r = 0 from if_pos h0]
    (refine LWP.seq <| rgN <| K.box rfl rfl rfl .plain <| K.box rfl rfl rfl .plain <| K.box rfl rfl rfl .plain <| kas rfl <| RunK.nil <| LWP.seq <| LWP.block <| LWP.seq <| rgN <| kfa rfl rfl ?_; refine kl1 rfl rfl rfl <| keq rfl rfl (r := true) (beq_iff_eq.2 h0) <| kas rfl <| RunK.nil <| LWP.condT rfl ?_; refine LWP.seq <| rgN <| kas rfl <| RunK.nil <| LWP.ret ?_)
    exact ⟨[_], ⟨rfl, trivial⟩, rfl⟩
  by_cases hl : r.ex.length = b.fs.length
  case neg =>
    rw [show ruE a.fs b.fs r = 4 by unfold ruE; rw [if_neg h0, if_neg hl]]
    (refine LWP.seq <| rgN <| K.box rfl rfl rfl .plain <| K.box rfl rfl rfl .plain <| K.box rfl rfl rfl .plain <| kas rfl <| RunK.nil <| LWP.seq <| LWP.block <| LWP.seq <| rgN <| kfa rfl rfl ?_; refine kl1 rfl rfl rfl <| keq rfl rfl (r := false) (beq_eq_false_iff_ne.2 h0) <| kas rfl <| RunK.nil <| LWP.condF rfl ?_; refine LWP.seq <| rgN <| kfa rfl rfl ?_; refine kl1 rfl rfl rfl <| K.lenX rfl SliceT.h rfl .plain ?_; refine kfa rfl rfl ?_; refine kl1 rfl rfl rfl <| K.lenX rfl SliceT.h rfl .plain ?_; refine kne rfl rfl (r := true) (bne_iff_ne.2 (by omega)) <| kas rfl <| RunK.nil <| LWP.condT rfl ?_; refine LWP.seq <| rgN <| kas rfl <| RunK.nil <| LWP.ret ?_)
    exact ⟨[_], ⟨rfl, trivial⟩, rfl⟩
  rw [ruE_at h0 hl]
  have hzl : (b.fs.zip r.ex).length = b.fs.length := by rw [List.length_zip]; omega
  (refine LWP.seq <| rgN <| K.box rfl rfl rfl .plain <| K.box rfl rfl rfl .plain <| K.box rfl rfl rfl .plain <| kas rfl <| RunK.nil <| LWP.seq <| LWP.block <| LWP.seq <| rgN <| kfa rfl rfl ?_; refine kl1 rfl rfl rfl <| keq rfl rfl (r := false) (beq_eq_false_iff_ne.2 h0) <| kas rfl <| RunK.nil <| LWP.condF rfl ?_; refine LWP.seq <| rgN <| kfa rfl rfl ?_; refine kl1 rfl rfl rfl <| K.lenX rfl SliceT.h rfl .plain ?_; refine kfa rfl rfl ?_; refine kl1 rfl rfl rfl <| K.lenX rfl SliceT.h rfl .plain ?_; refine kne rfl rfl (r := false) (bne_eq_false_iff_eq.2 (by omega)) <| kas rfl <| RunK.nil <| LWP.condF rfl ?_; refine LWP.skip ?_; refine LWP.seq <| LWP.seq <| rgN <| kfa rfl rfl ?_; refine kl1 rfl rfl rfl <| K.lenX rfl SliceT.h rfl .plain ?_; refine kmv rfl <| RunK.nil <| LWP.block ?_)
  refine LWP.loop (fun m σ => ∃ i : Nat, i ≤ r.ex.length ∧ m = r.ex.length - i ∧ (∀ j, 0 ≤ j → j < i → atE (fun q : Fl × List Ins => fmE a.fs q.1 q.2) (b.fs.zip r.ex) j = 0) ∧ σ = ⟨[(3, Lp 3), (4, Lp 4), (23, Lx ead r.ex.length ecap), (24, Ln .i64 (r.ex.length : Nat)), (25, Ln .i64 (i : Nat))], [cpB 4 b bad bcap, cpB 3 a aad acap], X⟩) r.ex.length
    ⟨_, Le.of (by exact ⟨rfl, rfl, rfl, rfl, rfl, trivial⟩) (by exact ⟨rfl, rfl, trivial⟩) (by exact rfl) (by exact rfl) (by repeat' (first | refine all_cons_true ?_ ?_ | rfl | exact bytes_inUse | exact vals_inUse | exact mid_inUse rfl)), 0, by omega, by omega, fun j _ hj => absurd hj (by omega), rfl⟩ ?_
  rintro m σ ⟨i, hi, rfl, hpre, rfl⟩
  by_cases hlt : i < r.ex.length
  case neg =>
    rw [show seqE (fun q : Fl × List Ins => fmE a.fs q.1 q.2) (b.fs.zip r.ex) = 0 from firstE_none fun j h1 h2 => hpre j h1 (by omega)]
    (refine LWP.seq <| rgN <| klt rfl rfl (decide_eq_false (by omega)) <| RunK.nil <| LWP.seq <| LWP.condF rfl ?_; refine LWP.exit <| LWP.seq <| rgN <| kas rfl <| RunK.nil <| LWP.ret ?_)
    exact ⟨[_], ⟨rfl, trivial⟩, rfl⟩
  obtain ⟨f, hf⟩ : ∃ f, b.fs[i]? = some f := ⟨_, List.getElem?_eq_getElem (by omega)⟩
  obtain ⟨c, hc⟩ : ∃ c, r.ex[i]? = some c := ⟨_, List.getElem?_eq_getElem hlt⟩
  obtain ⟨fb, fo, farr, fel, ffr, rfl, hFX, hFz, hFc, _⟩ := hB.cells hf
  obtain ⟨eb, eo, earr, eel, efr, vad, vcap, rfl, hEX, hec, hI⟩ := hE.get hc
  have hio3 : fo + Int.toNat (i : Int) * 3 = fo + i * 3 := by simp
  have hio1 : eo + Int.toNat (i : Int) * 1 = eo + i * 1 := by simp
  have hadd : IntKind.i64.wrap ((i : Int) + 1) = ((i + 1 : Nat) : Int) := by rw [wrap_i64 (by omega)]; omega
  have hq := yFormula X a f c aad vad acap vcap hA hI (hcl c (List.mem_of_getElem? hc)) hal
  have hat : atE (fun q : Fl × List Ins => fmE a.fs q.1 q.2) (b.fs.zip r.ex) i = fmE a.fs f c := atE_at (zip_two hf hc)
  by_cases he : fmE a.fs f c = 0
  · rw [he] at hq
    (refine LWP.seq <| rgN <| klt rfl rfl (decide_eq_true (by omega)) <| RunK.nil <| LWP.seq <| LWP.condT rfl ?_; refine LWP.skip ?_; refine LWP.seq <| LWP.block <| LWP.seq <| rgN <| kmv rfl <| K.indexX rfl rfl SliceT.h (by omega) hio1 .plain <| K.loadX rfl hEX rfl hec .plain <| kas rfl <| kas rfl <| RunK.nil <| LWP.seq <| rgD mixed <| K.loadAll rfl rfl rfl .plain ?_; refine kfa rfl rfl ?_; refine kl1 rfl rfl rfl <| kmv rfl <| K.indexX rfl rfl SliceT.h (by omega) hio3 .plain <| K.loadXagg rfl hFX (by kernel_rfl) hFz hFc .plain <| kmv rfl <| kca rfl rfl hq <| kas rfl <| RunK.nil <| rgA ?_; refine LWP.seq <| rgN <| kmv rfl <| kne rfl rfl (r := false) rfl <| RunK.nil <| LWP.condF rfl ?_; refine LWP.skip ?_; refine rgN <| kad rfl rfl hadd <| kmv rfl <| RunK.nil ?_)
    exact ⟨_, _, by omega, Le.of (by exact ⟨rfl, rfl, rfl, rfl, rfl, trivial⟩) (by exact ⟨rfl, rfl, trivial⟩) (by exact rfl) (by exact rfl) (by repeat' (first | refine all_cons_true ?_ ?_ | rfl | exact bytes_inUse | exact vals_inUse | exact mid_inUse rfl)), i + 1, by omega, rfl, (fun j h0 hj => by
      by_cases e : j = i
      · rw [e, hat]; exact he
      · exact hpre j h0 (by omega)), rfl⟩
  · rw [show seqE (fun q : Fl × List Ins => fmE a.fs q.1 q.2) (b.fs.zip r.ex) = fmE a.fs f c from firstE_some hpre (Nat.zero_le _) (by omega) hat he]
    generalize fmE a.fs f c = e at *
    (refine LWP.seq <| rgN <| klt rfl rfl (decide_eq_true (by omega)) <| RunK.nil <| LWP.seq <| LWP.condT rfl ?_; refine LWP.skip ?_; refine LWP.seq <| LWP.block <| LWP.seq <| rgN <| kmv rfl <| K.indexX rfl rfl SliceT.h (by omega) hio1 .plain <| K.loadX rfl hEX rfl hec .plain <| kas rfl <| kas rfl <| RunK.nil <| LWP.seq <| rgD mixed <| K.loadAll rfl rfl rfl .plain ?_; refine kfa rfl rfl ?_; refine kl1 rfl rfl rfl <| kmv rfl <| K.indexX rfl rfl SliceT.h (by omega) hio3 .plain <| K.loadXagg rfl hFX (by kernel_rfl) hFz hFc .plain <| kmv rfl <| kca rfl rfl hq <| kas rfl <| RunK.nil <| rgA ?_; refine LWP.seq <| rgN <| kmv rfl <| kne rfl rfl (r := true) (bne_iff_ne.2 he) <| RunK.nil <| LWP.condT rfl ?_; refine LWP.seq <| rgN <| kmv rfl <| kas rfl <| RunK.nil <| LWP.ret ?_)
    exact ⟨[_], ⟨rfl, trivial⟩, rfl⟩
end Go.Proofs.YtopiioklkkiedaaGreatDoor
end
section
namespace Go.Lg
open Go Go.RowKit
section
variable {P : Program} {X : Nat → Option Obj} {pre : List (Nat × Option Box)} {ι : Nat → Nat × Nat} {H : Nat → Nat → Option Obj} {w : World}
theorem lentBox_mem (hM : MemOf X ι H pre w) {k : Nat} {b : Box} (hst : stOf pre k = some (some b)) : LentBox (fun i => w.heap[i]?) b (ι k).1 (ι k).2 := by
  obtain ⟨e, cs, row⟩ := b
  cases row with
  | bool r =>
    obtain ⟨arr, fr, harr, _, hsz, hbr⟩ := hM.boxes k _ hst rfl
    unfold Box.rel at hbr
    cases r with
    | false => exact ⟨arr, fr, arr.toList, [], harr, hsz, by simp, fun vals e => by simp only at e hbr; rw [e] at hbr; exact rel_vals hbr⟩
    | true =>
      obtain ⟨us, sp, e, hl⟩ := hbr
      exact ⟨arr, fr, us, sp, harr, hsz, e, fun vals e => by simp only at e hl; rw [e] at hl; exact rel_vals hl⟩
  | res R => exact ⟨H k, (hM.res.holds k _ _ _ hst).1, fun i o h => (hM.res.mem k i o h).2.1⟩
theorem lentC_mem (hM : MemOf X ι H pre w) (ks : List Nat) {c : CV} {u : Value} (hl : lendC (stOf pre) ks c = true) (h : c.rel (stOf pre) ι u) : LentC (stOf pre) (fun i => w.heap[i]?) c u := by
  cases c with
  | val v => exact h
  | slc k off len sz =>
    simp only [lendC, Bool.and_eq_true] at hl
    cases hs : stOf pre k with
    | none => rw [hs] at hl; exact absurd hl.2 (by simp)
    | some x =>
      cases x with
      | none => rw [hs] at hl; exact absurd hl.2 (by simp)
      | some b =>
        simp only [CV.rel, hs] at h
        obtain ⟨cap, rfl, h3, h4⟩ := h
        exact ⟨b, _, cap, _, hs, rfl, h3, h4, lentBox_mem hM hs⟩
  | ptr _ _ => cases hl
  | mp _ => cases hl
  | fn _ _ _ => cases hl
  | hang _ _ _ => cases hl
  | junk => cases hl
theorem lentCs_mem (hM : MemOf X ι H pre w) (ks : List Nat) : ∀ {cs : List CV} {us : List Value}, cs.all (lendC (stOf pre) ks) = true → CVs.rel (stOf pre) ι cs us → LentCs (stOf pre) (fun i => w.heap[i]?) cs us
  | [], [], _, _ => rfl
  | [], _ :: _, _, h => h.elim
  | _ :: _, [], _, h => h.elim
  | c :: l, u :: us, hl, h => by
    simp only [List.all_cons, Bool.and_eq_true] at hl
    exact ⟨u, us, rfl, lentC_mem hM ks hl.1 h.1, lentCs_mem hM ks hl.2 h.2⟩
theorem lentLs_mem (hM : MemOf X ι H pre w) (ks : List Nat) : ∀ {lvs : List LV} {us : List Value}, lvs.all (lendL (stOf pre) ks) = true → LVs.rel (stOf pre) ι lvs us → LentLs (stOf pre) (fun i => w.heap[i]?) lvs us
  | [], [], _, _ => rfl
  | [], _ :: _, _, h => h.elim
  | _ :: _, [], _, h => h.elim
  | lv :: l, u :: us, hl, h => by
    simp only [List.all_cons, Bool.and_eq_true] at hl
    refine ⟨u, us, rfl, ?_, lentLs_mem hM ks hl.2 h.2⟩
    have h1 := h.1
    have h2 := hl.1
    match lv with
    | .sv (.one c) => exact lentC_mem hM ks h2 h1
    | .sv (.agg cs) =>
      obtain ⟨arr, rfl, hl'⟩ := h1
      exact ⟨arr.toList, by simp, lentCs_mem hM ks h2 hl'⟩
    | .tup _ => cases h2
theorem Box.rel_means {bx : List (Nat × Option Box)} {S : Nat → Option (Option Box)} {κ : Nat → Nat × Nat} (h : ∀ k, (look k bx).isSome = true → κ k = ι k) {b : Box} (hu : b.cells.all (CV.inUse bx) = true) {vs : List Value} (hr : b.rel S ι vs) : b.rel S κ vs := by
  unfold Box.rel at hr ⊢
  cases hb : b.row with
  | res R => rw [hb] at hr; exact hr.elim
  | bool r =>
    cases r with
    | false => rw [hb] at hr; exact CVs.rel_means h hu hr
    | true =>
      rw [hb] at hr
      obtain ⟨us, sp, e, hl⟩ := hr
      exact ⟨us, sp, e, CVs.rel_means h hu hl⟩
theorem MSpec.lend {f : FuncId} {lvs : List LV} {r : LV} {post : List (Nat × Option Box)} (hent : Program.enters P f = true) (hl : lvs.all (lendL (stOf pre) (pre.map (·.1))) = true)
    (hub : pre.all (fun p => match p.2 with | some b => b.cells.all (CV.inUse pre) | none => true) = true) (hup : post.all (fun p => match p.2 with | some b => b.cells.all (CV.inUse post) | none => true) = true) (hur : r.inUse post = true) (hdis : post.all (fun p => (look p.1 pre).isNone) = true)
    (hs : ∀ (Y : Nat → Option Obj) (us : List Value), (∀ b o, X b = some o → Y b = some o) → LentLs (stOf pre) Y lvs us → MSpec P Y f (us.map toLV) [] r post) : MSpec P X f lvs pre r (pre ++ post) := by
  refine ⟨hent, fun w vals ι H hM hargs => ?_⟩
  have hlent := lentLs_mem hM (pre.map (·.1)) hl hargs
  have hM0 : MemOf (fun b => w.heap[b]?) (fun _ => (0, 0)) (fun _ _ => none) [] w := ⟨fun k b h => (by cases h), fun k b h => (by cases h), fun k k' b b' h => (by cases h), fun b o h => h, ⟨fun k e cs R h => (by cases h), fun k b o h => (by cases h), fun k k' b h => absurd rfl h⟩⟩
  have hc := (hs _ _ hM.ext hlent).out w vals (fun _ => (0, 0)) (fun _ _ => none) hM0 (args_rel _)
  refine hc.mono ?_
  rintro e w' ⟨v, ι', H', rfl, hv, hM', hP⟩
  have hno : ∀ b, ¬ LentB [] (fun _ => (0, 0)) (fun _ _ => none) b := fun b h => by
    rcases h with ⟨k, b0, h, _⟩ | ⟨k, h⟩
    · cases h
    · exact h rfl
  have hst : ∀ k, stOf (pre ++ post) k = (look k pre).or (look k post) := fun k => look_append _ _ _
  have hp1 : ∀ k x, look k pre = some x → stOf (pre ++ post) k = some x := fun k x h => by rw [hst, h]; rfl
  have hdj : ∀ k x, look k post = some x → look k pre = none := fun k x h => by
    have := List.all_eq_true.1 hdis _ (look_mem h)
    simpa using this
  have hp2 : ∀ k x, look k post = some x → stOf (pre ++ post) k = some x := fun k x h => by rw [hst, hdj k x h, h]; rfl
  have hback : ∀ k x, stOf (pre ++ post) k = some x → look k pre = some x ∨ (look k pre = none ∧ look k post = some x) := fun k x h => by
    rw [hst] at h
    cases hp : look k pre with
    | none => rw [hp] at h; exact .inr ⟨rfl, h⟩
    | some y => rw [hp] at h; exact .inl h
  have hgrow : ∀ b o, w.heap[b]? = some o → w'.heap[b]? = some o := fun b o h => hM'.ext b o h
  have hin : ∀ k b, look k pre = some (some b) → ∃ o, w.heap[(ι k).1]? = some o := fun k b h => by
    cases hb : b.blk with
    | true =>
      obtain ⟨arr, fr, h1, _⟩ := hM.boxes k b h hb
      exact ⟨_, h1⟩
    | false =>
      obtain ⟨e, cs, R, rfl⟩ := Box.res_of hb
      have h1 := (hM.res.holds k _ _ _ h).2
      cases ho : H k (ι k).1 with
      | none => exact absurd ho h1
      | some o => exact ⟨o, (hM.res.mem k _ o ho).2.1⟩
  have hout : ∀ k b, look k post = some (some b) → w.heap[(ι' k).1]? = none := fun k b h => hM'.apart k b h
  have hX : ∀ b, w.heap[b]? = none → X b = none := fun b h => by
    cases hx : X b with
    | none => rfl
    | some o => rw [hM.ext b o hx] at h; cases h
  generalize hκ : (fun k => if (look k pre).isSome = true then ι k else ι' k) = κ
  generalize hG : (fun k => if (look k pre).isSome = true then H k else H' k) = G
  have k1 : ∀ k x, look k pre = some x → κ k = ι k := fun k x h => by rw [← hκ]; exact if_pos (by rw [h]; rfl)
  have k2 : ∀ k, look k pre = none → κ k = ι' k := fun k h => by rw [← hκ]; exact if_neg (by rw [h]; decide)
  have g1 : ∀ k x, look k pre = some x → G k = H k := fun k x h => by rw [← hG]; exact if_pos (by rw [h]; rfl)
  have g2 : ∀ k, look k pre = none → G k = H' k := fun k h => by rw [← hG]; exact if_neg (by rw [h]; decide)
  have on1 : SameOn pre (stOf pre) (stOf (pre ++ post)) := fun k x h => h.trans (hp1 k x h).symm
  have on2 : SameOn post (stOf post) (stOf (pre ++ post)) := fun k x h => h.trans (hp2 k x h).symm
  have mn1 : ∀ k, (look k pre).isSome = true → κ k = ι k := fun k h => by
    obtain ⟨x, hx⟩ := Option.isSome_iff_exists.1 h
    exact k1 k x hx
  have mn2 : ∀ k, (look k post).isSome = true → κ k = ι' k := fun k h => by
    obtain ⟨x, hx⟩ := Option.isSome_iff_exists.1 h
    exact k2 k (hdj k x hx)
  have hcp : ∀ k b, look k pre = some (some b) → b.cells.all (CV.inUse pre) = true := fun k b h => by simpa using List.all_eq_true.1 hub _ (look_mem h)
  have hcq : ∀ k b, look k post = some (some b) → b.cells.all (CV.inUse post) = true := fun k b h => by simpa using List.all_eq_true.1 hup _ (look_mem h)
  have hHin : ∀ k b, H k b ≠ none → (∃ x, look k pre = some x) ∧ ∃ o, w.heap[b]? = some o := fun k b h => by
    cases ho : H k b with
    | none => exact absurd ho h
    | some o =>
      obtain ⟨⟨_, _, _, h1⟩, h2, _⟩ := hM.res.mem k b o ho
      exact ⟨⟨_, h1⟩, o, h2⟩
  have hHout : ∀ k b, H' k b ≠ none → w.heap[b]? = none := fun k b h => by
    cases ho : H' k b with
    | none => exact absurd ho h
    | some o => exact (hM'.res.mem k b o ho).2.2.2.2.1
  refine ⟨v, κ, G, rfl, LV.rel_means mn2 hur (LV.rel_on on2 hur hv), ?_, ?_⟩
  · refine ⟨fun k b hk hb => ?_, fun k b hk => ?_, fun k k' b b' hk hk' he => ?_, fun b o hb => hgrow b o (hM.ext b o hb), ?_⟩
    · rcases hback k _ hk with h | ⟨h, h'⟩
      · obtain ⟨arr, fr, q1, q2, q3, q4⟩ := hM.boxes k b h hb
        rw [k1 k _ h]
        exact ⟨arr, fr, hgrow _ _ q1, q2, q3, Box.rel_means mn1 (hcp k b h) (Box.rel_on on1 (hcp k b h) q4)⟩
      · obtain ⟨arr, fr, q1, q2, q3, q4⟩ := hM'.boxes k b h' hb
        rw [k2 k h]
        exact ⟨arr, fr, q1, q2, q3, Box.rel_means mn2 (hcq k b h') (Box.rel_on on2 (hcq k b h') q4)⟩
    · rcases hback k _ hk with h | ⟨h, h'⟩
      · rw [k1 k _ h]; exact hM.apart k b h
      · rw [k2 k h]; exact hX _ (hout k b h')
    · rcases hback k _ hk with h | ⟨h, h'⟩
      · rcases hback k' _ hk' with i | ⟨i, i'⟩
        · rw [k1 k _ h, k1 k' _ i] at he
          exact hM.inj k k' b b' h i he
        · rw [k1 k _ h, k2 k' i] at he
          obtain ⟨o, ho⟩ := hin k b h
          rw [he, hout k' b' i'] at ho
          cases ho
      · rcases hback k' _ hk' with i | ⟨i, i'⟩
        · rw [k2 k h, k1 k' _ i] at he
          obtain ⟨o, ho⟩ := hin k' b' i
          rw [← he, hout k b h'] at ho
          cases ho
        · rw [k2 k h, k2 k' i] at he
          exact hM'.inj k k' b b' h' i' he
    · refine ⟨fun k e cs R hk => ?_, fun k b o ho => ?_, fun k k' b q1 q2 => ?_⟩
      · rcases hback k _ hk with h | ⟨h, h'⟩
        · rw [k1 k _ h, g1 k _ h]; exact hM.res.holds k e cs R h
        · rw [k2 k h, g2 k h]; exact hM'.res.holds k e cs R h'
      · cases h : look k pre with
        | some x =>
          rw [g1 k x h] at ho
          obtain ⟨⟨e1, cs1, R1, q0⟩, q1, q2, q3, q4, q5⟩ := hM.res.mem k b o ho
          refine ⟨⟨e1, cs1, R1, hp1 k _ q0⟩, hgrow _ _ q1, q2, trivial, q4, fun j bj hj e2 => ?_⟩
          rcases hback j _ hj with i | ⟨i, i'⟩
          · rw [k1 j _ i] at e2; exact q5 j bj i e2
          · rw [k2 j i] at e2
            have := hout j bj i'
            rw [e2, q1] at this
            cases this
        | none =>
          rw [g2 k h] at ho
          obtain ⟨⟨e1, cs1, R1, q0⟩, q1, q2, q3, q4, q5⟩ := hM'.res.mem k b o ho
          refine ⟨⟨e1, cs1, R1, hp2 k _ q0⟩, q1, q2, trivial, hX b q4, fun j bj hj e2 => ?_⟩
          rcases hback j _ hj with i | ⟨i, i'⟩
          · rw [k1 j _ i] at e2
            obtain ⟨o2, ho2⟩ := hin j bj i
            rw [e2] at ho2
            rw [show w.heap[b]? = none from q4] at ho2
            cases ho2
          · rw [k2 j i] at e2; exact q5 j bj i' e2
      · cases h : look k pre with
        | some x =>
          rw [g1 k x h] at q1
          cases h2 : look k' pre with
          | some y => rw [g1 k' y h2] at q2; exact hM.res.apart k k' b q1 q2
          | none =>
            rw [g2 k' h2] at q2
            obtain ⟨_, o, ho⟩ := hHin k b q1
            rw [hHout k' b q2] at ho
            cases ho
        | none =>
          rw [g2 k h] at q1
          cases h2 : look k' pre with
          | some y =>
            rw [g1 k' y h2] at q2
            obtain ⟨_, o, ho⟩ := hHin k' b q2
            rw [hHout k b q1] at ho
            cases ho
          | none => rw [g2 k' h2] at q2; exact hM'.res.apart k k' b q1 q2
  · refine ⟨fun k b hk hn => ?_, fun k b hk hn => ?_, fun k b h => ?_, fun b hb _ => hP.frame b hb (hno b), hP.big, hP.os, hP.tape, hP.output⟩
    · rcases hback k _ hk with h | ⟨h, _⟩
      · exact ⟨⟨b, h⟩, k1 k _ h⟩
      · exact absurd h hn
    · rcases hback k _ hk with h | ⟨h, h'⟩
      · have h2 : look k pre = none := hn
        rw [h] at h2; cases h2
      · rw [k2 k h]
        rcases hP.new k b h' rfl with q | q
        · exact .inl q
        · exact absurd q (hno _)
    · cases hp : look k pre with
      | some x => rw [g1 k x hp] at h; exact .inr (.inr ⟨k, h⟩)
      | none =>
        rw [g2 k hp] at h
        rcases hP.newH k b h with q | q
        · exact .inl q
        · exact absurd q (hno _)
end
end Go.Lg
end
section
namespace Go.Lg
open Go Go.RowKit
section
variable {P : Program} {n : Nat} {ops os : List Oper} {acc : List Eff} {K : List Eff → St → Prop} {s : List (Nat × LV)} {bx : List (Nat × Option Box)} {X : Nat → Option Obj} {σ : St}
structure MadeOf (P : Program) (t : TypeId) (e : TypeId) (sz bytes : Nat) (z : List Value) : Prop where
  under : P.underlying t = some (.slice e)
  info : (P.info? e).map (fun i => (i.size, i.zero.map (fun z => z.cells), i.bytes)) = some (sz, some z.toArray, bytes)
  len : z.length = sz
end
end Go.Lg
end
section
namespace Go.Proofs.YtopiioklkkiedaaGreatDoor
open Go Go.Lg Go.Lg.Fml Go.Lg.Fld Go.Lg.Arith
set_option maxRecDepth 100000
structure NmsIn (X : Nat → Option Obj) (ad : Option Addr) (l : List Int) : Prop where
  at_ : ∀ (i : Nat) (v : Int), l[i]? = some v → ∃ (blk off : Nat) (arr : Array Value) (el : TypeId) (fr : Nat × Nat), ad = some ⟨blk, off, none⟩ ∧ X blk = some (.cells arr el fr) ∧ arr[off + i * 1]? = some (.int .i64 v)
variable (X : Nat → Option Obj)
end Go.Proofs.YtopiioklkkiedaaGreatDoor
end
section
namespace Go.Proofs.YtopiioklkkiedaaGreatDoor
open Go Go.Lg Go.Lg.Fml Go.Lg.Fld Go.Lg.Arith
set_option maxRecDepth 100000
def e4 : List UInt8 × Bool → Nat × List UInt8 × Bool
  | (l, b) => if b = false ∧ 4 ≤ l.length then (le (l.take 4), l.drop 4, false) else (0, l, true)
structure KE (l : List UInt8) (b : Bool) (c : List Ins) (l' : List UInt8) (b' : Bool) : Prop where
  less : l'.length ≤ l.length
  bad : b = true → b' = true
  ok : c.length < 256 ∧ ∀ x ∈ c, smallI x
  get : (b = false ∧ b' = false ∧ getE l = some (c, l')) ∨ ((b = true ∨ getE l = none) ∧ (b' = true ∨ c = []))
structure KEs (l : List UInt8) (b : Bool) (i : Nat) (cs : List (List Ins)) (l' : List UInt8) (b' : Bool) : Prop where
  len : cs.length = i
  less : l'.length ≤ l.length
  bad : b = true → b' = true
  ok : ∀ c ∈ cs, c.length < 256 ∧ ∀ x ∈ c, smallI x
  get : (b = false ∧ b' = false ∧ getEs i l = some (cs, l')) ∨ ((b = true ∨ ∀ k, getEs (i + k) l = none) ∧ (b' = true ∨ [] ∈ cs))
def okK (r : Rl) : Prop := (0 ≤ r.nw ∧ r.nw < 256) ∧ (0 ≤ r.old ∧ r.old < 256) ∧ r.ex.length < 256 ∧ ∀ c ∈ r.ex, c.length < 256 ∧ ∀ x ∈ c, smallI x
structure KR (l : List UInt8) (b : Bool) (r : Rl) (l' : List UInt8) (b' : Bool) : Prop where
  less : l'.length ≤ l.length
  bad : b = true → b' = true
  ok : okK r
  get : (b = false ∧ b' = false ∧ getRl l = some (r, l')) ∨ ((b = true ∨ getRl l = none) ∧ (b' = true ∨ [] ∈ r.ex))
structure KRs (l : List UInt8) (b : Bool) (i : Nat) (rs : List Rl) (l' : List UInt8) (b' : Bool) : Prop where
  len : rs.length = i
  less : l'.length ≤ l.length
  bad : b = true → b' = true
  ok : ∀ r ∈ rs, okK r
  get : (b = false ∧ b' = false ∧ getRls i l = some (rs, l')) ∨ ((b = true ∨ ∀ k, getRls (i + k) l = none) ∧ (b' = true ∨ ∃ r ∈ rs, [] ∈ r.ex))
variable (X : Nat → Option Obj)
end Go.Proofs.YtopiioklkkiedaaGreatDoor
end
section
namespace Go.Proofs.YtopiioklkkiedaaGreatDoor
open Go Go.Lg Go.Lg.Fml Go.Lg.Fld Go.Lg.Arith
set_option maxRecDepth 100000
def pgOk (p : Pg) : Prop := p.rs.length ≤ 30 ∧ ∀ r ∈ p.rs, r.ex.length ≤ 12 ∧ ∀ c ∈ r.ex, c.length ≤ 80
variable (X : Nat → Option Obj)
section
variable (p : Pg) (ad : Option Addr) (cap : Nat) (hin : RulesIn X ad p.rs) (hs : pgOk p)
include hin hs
end
end Go.Proofs.YtopiioklkkiedaaGreatDoor
end
section
namespace Go.Proofs.YtopiioklkkiedaaGreatDoor
open Go Go.Lg Go.Lg.Fml Go.Lg.Fld Go.Lg.Arith
set_option maxRecDepth 100000
def scOk (cs : List Cp) : Prop := cs.length ≤ 30 ∧ ∀ c ∈ cs, c.fs.length ≤ 12
def scBig (cs : List Cp) : Prop := cs.length ≤ 4398046511104 ∧ ∀ c ∈ cs, c.fs.length ≤ 4398046511104
variable (X : Nat → Option Obj)
theorem cRule (a b : Cp) (r : Rl) (aad bad ead : Option Addr) (acap bcap ecap : Nat) (hA : FieldsIn X aad a.fs) (hB : FieldsIn X bad b.fs) (hE : CodesIn X ead r.ex) (hal : a.fs.length < 4611686018427387904) (hbl : b.fs.length < 4611686018427387904) (hcl : ∀ c ∈ r.ex, c.length < 1152921504606846976) :
    PSpec Tryz.prog X 67 [Cx a aad acap, Cx b bad bcap, .sv (.agg [.val (.int .i64 r.nw), .val (.int .i64 r.old), .val (.slice ead r.ex.length ecap)])] (Ln .i64 (ruE a.fs b.fs r)) := yRule X a b r aad bad ead acap bcap ecap hA hB hE hal hbl hcl
end Go.Proofs.YtopiioklkkiedaaGreatDoor
end
section
namespace Go.Proofs.YtopiioklkkiedaaGreatDoor
open Go Go.Lg Go.Lg.Fml Go.Lg.Fld Go.Lg.Arith
set_option maxRecDepth 100000
def valA (a b : List Fl) (r : Rl) (ns : List Nm) : List Nm := if valE a b r ns = 0 then valN a b r ns else []
def vShape (e : Int) (_ : List Nm) : Bool := e == 0
def vRow (_ : List Nm) : Bool := true
theorem vShape_nil {a b : List Fl} {r : Rl} {ns : List Nm} (h : vShape (valE a b r ns) (valA a b r ns) = false) : valA a b r ns = [] := if_neg (by unfold vShape at h; simpa using h)
abbrev nmsB (k : Nat) (l : List Nm) (row : Bool) : Nat × Option Box := (k, some ⟨86, (nmsV l).map .val, row⟩)
structure PartsC (X : Nat → Option Obj) (ad : Option Addr) (ps : List Pt) : Prop where
  at_ : ∀ (i : Nat) (p : Pt), ps[i]? = some p → ∃ (blk off : Nat) (arr : Array Value) (el : TypeId) (fr : Nat × Nat) (vad : Option Addr) (vcap : Nat), ad = some ⟨blk, off, none⟩ ∧ X blk = some (.cells arr el fr) ∧ off + i * 2 + 2 ≤ arr.size ∧
    (arr.toList.drop (off + i * 2)).take 2 = [.int .i64 p.comp, .slice vad p.val.length vcap] ∧ NumsIn X vad p.val ∧ p.val.length ≤ vcap
  small : ∀ p ∈ ps, -9223372036854775808 ≤ p.comp ∧ p.comp < 9223372036854775808
end Go.Proofs.YtopiioklkkiedaaGreatDoor
end
section
namespace Go.Proofs.YtopiioklkkiedaaGreatDoor
open Go Go.Lg Go.Lg.Fml Go.Lg.Fld Go.Lg.Arith
set_option maxRecDepth 100000
theorem evX_two {l : List Ins} {fs : List (List Nm)} {at_ : Int} {v : Nm} (hl : ∀ x ∈ l, In2 x.k.2) (hf : ∀ r ∈ fs, ∀ u ∈ r, In2 u.2) (hat : at_ < 9223372036854775808) (h : evX l fs at_ = .ok v) : In2 v.2 := by
  by_cases hz : chkX l = 0
  · obtain ⟨t, ht, e⟩ := parse (chkX_zero hz).2
    rw [evX_tree hz ht e] at h
    cases hev : t.ev (oneX fs at_) with
    | error e' => rw [hev] at h; cases h
    | ok u =>
      rw [hev] at h
      simp only at h
      split at h
      · cases h; exact tree_in2 hf hat (fun x hx => hl x (by rw [← e]; exact hx)) hev
      · cases h
  · rw [show evX l fs at_ = .error (chkX l) from if_neg hz] at h; cases h
def subA (vad : Option Addr) (s : Nat) : Option Addr := vad.map fun a => ⟨a.block, a.off + s * 3, a.spot⟩
def subV (vad : Option Addr) (vcap : Nat) : Nat → List Fl → List Value
  | _, [] => []
  | s, f :: t => .slice (subA vad s) f.n (vcap - s) :: subV vad vcap (s + f.n) t
theorem subV_snoc (vad : Option Addr) (vcap : Nat) (f : Fl) : ∀ (l : List Fl) (s : Nat), subV vad vcap s (l ++ [f]) = subV vad vcap s l ++ [.slice (subA vad (s + sumC l)) f.n (vcap - (s + sumC l))]
  | [], s => by simp [subV, sumC]
  | g :: t, s => by
    have e : s + sumC (g :: t) = s + g.n + sumC t := by simp [sumC]; omega
    simp only [List.cons_append, subV, subV_snoc vad vcap f t, e]
theorem subV_len (vad : Option Addr) (vcap : Nat) : ∀ (l : List Fl) (s : Nat), (subV vad vcap s l).length = l.length
  | [], _ => rfl
  | g :: t, s => by simp only [subV, List.length_cons, subV_len vad vcap t]
theorem subV_at (vad : Option Addr) (vcap : Nat) : ∀ {l : List Fl} {s i : Nat} {f : Fl}, l[i]? = some f → (subV vad vcap s l)[i]? = some (.slice (subA vad (s + sumC (l.take i))) f.n (vcap - (s + sumC (l.take i))))
  | g :: t, s, 0, f, h => by
    simp only [List.getElem?_cons_zero, Option.some.injEq] at h
    subst h
    simp [subV, sumC]
  | g :: t, s, i + 1, f, h => by
    simp only [List.getElem?_cons_succ] at h
    have := subV_at vad vcap (s := s + g.n) h
    have e : s + sumC ((g :: t).take (i + 1)) = s + g.n + sumC (t.take i) := by simp [sumC]; omega
    rw [e]
    exact this
  | [], _, _, _, h => by simp at h
theorem nums_sub {X : Nat → Option Obj} {vad : Option Addr} {ns : List Nm} (h : NumsIn X vad ns) (s n : Nat) : NumsIn X (subA vad s) ((ns.drop s).take n) := ⟨fun i r hr => by
  rw [List.map_take, List.map_drop, List.getElem?_take] at hr
  split at hr
  · rw [List.getElem?_drop] at hr
    obtain ⟨blk, off, arr, el, fr, rfl, h2, h3, h4⟩ := h.rows (s + i) r hr
    refine ⟨blk, off + s * 3, arr, el, fr, rfl, h2, by omega, ?_⟩
    rw [show off + s * 3 + i * 3 = off + (s + i) * 3 by omega]
    exact h4
  · simp at hr, fun u hu => h.in2 u (List.mem_of_mem_drop (List.mem_of_mem_take hu))⟩
theorem fss_block {Y : Nat → Option Obj} {blk : Nat} {arr : Array Value} {el : TypeId} {fr : Nat × Nat} {vad : Option Addr} {vcap : Nat} {fs : List Fl} {ns : List Nm} (hY : Y blk = some (.cells arr el fr)) (h : ∃ sp, arr.toList = subV vad vcap 0 fs ++ sp) (hn : NumsIn Y vad ns) (hl : ns.length = sumC fs) : FssIn Y (some ⟨blk, 0, none⟩) (cutN fs ns) := ⟨fun i r hr => by
  obtain ⟨sp, h⟩ := h
  have hi := (List.getElem?_eq_some_iff.1 hr).1
  rw [cutN_len] at hi
  obtain ⟨f, hf⟩ : ∃ f, fs[i]? = some f := ⟨_, List.getElem?_eq_getElem hi⟩
  rw [cut_at hf] at hr
  cases hr
  have hs := sum_take hf
  have hlen : ((ns.drop (sumC (fs.take i))).take f.n).length = f.n := by rw [List.length_take, List.length_drop]; omega
  have hv := subV_at vad vcap (s := 0) hf
  rw [Nat.zero_add] at hv
  have hsz : arr.size = fs.length + sp.length := by rw [← Array.length_toList, h, List.length_append, subV_len]
  refine ⟨blk, 0, arr, el, fr, subA vad (sumC (fs.take i)), vcap - sumC (fs.take i), rfl, hY, by omega, ?_, nums_sub hn _ _⟩
  rw [← Array.getElem?_toList, h, Nat.zero_add, List.getElem?_append_left (by rw [subV_len]; exact hi), hv, hlen]⟩
theorem sum_pos {fs : List Fl} (h : fs.all Fl.ok = true) {i : Nat} {f : Fl} (hf : fs[i]? = some f) : 1 ≤ f.n ∧ f.n ≤ 8 ∧ (f.n : Int) = f.count := (ok_w (List.all_eq_true.1 h f (List.mem_of_getElem? hf))).2
structure PartsH (H : Nat → Option Obj) (ws : List Value) (ps : List Pt) : Prop where
  len : ws.length = ps.length
  at_ : ∀ (i : Nat) (w : Value) (p : Pt), ws[i]? = some w → ps[i]? = some p → ∃ (vad : Option Addr) (vcap : Nat), w = .slice vad p.val.length vcap ∧ NumsIn H vad p.val
section
variable {n : Nat} {C : Ctx} {X : Nat → Option Obj} {s : List (Nat × LV)} {bx : List (Nat × Option Box)} {k : Nat}
end
theorem valN_two {a b : List Fl} {r : Rl} {ns : List Nm} (hI : ∀ c ∈ r.ex, ∀ x ∈ c, In2 x.k.2) (hN : ∀ u ∈ ns, In2 u.2) (hk : ∀ f ∈ b, f.count < 9223372036854775808) : ∀ u ∈ valN a b r ns, In2 u.2 := fun u hu => by
  obtain ⟨q, hq, rfl⟩ := List.mem_map.1 hu
  obtain ⟨i, h1, h2, h3⟩ := mem_steps hq
  have hc := hk q.1 (List.mem_of_getElem? h1)
  unfold Fl.n at h3
  unfold stepV
  cases he : evX q.2.1 (cutN a ns) q.2.2 with
  | error e => show 0 ≤ (0 : Int) ∧ (0 : Int) < _; decide
  | ok v => exact evX_two (hI q.2.1 (List.mem_of_getElem? h2)) (fun l hl u hu => hN u (cut_mem hl u hu)) (by omega) he
end Go.Proofs.YtopiioklkkiedaaGreatDoor
end
