/- A piece of a proof over this program: contracts of its functions, and a logic to prove them by. -/
import Derived.Test.YtfmohdliifmmfaaF3
import Derived.Test.YtfmohdliifmmfaaO4
namespace Go.Lg.Fld
open Go Go.Lg
/-- the kind of a name; 0: there is none -/
def named (l : List UInt8) : Int := if kN 1 = l then 1 else if kN 2 = l then 2 else if kN 3 = l then 3 else if kN 4 = l then 4 else if kN 5 = l then 5 else if kN 6 = l then 6 else if kN 7 = l then 7 else if kN 8 = l then 8 else if kN 9 = l then 9 else if kN 10 = l then 10 else 0
theorem named_at {l : List UInt8} {k : Int} (hk : kK k = true) (h : kN k = l) : named l = k := by
  subst h
  rcases kin hk with rfl | rfl | rfl | rfl | rfl | rfl | rfl | rfl | rfl | rfl <;> decide
theorem named_no {l : List UInt8} (h : ∀ j : Int, kK j = true → kN j ≠ l) : named l = 0 := by
  unfold named
  rw [if_neg (h 1 rfl), if_neg (h 2 rfl), if_neg (h 3 rfl), if_neg (h 4 rfl), if_neg (h 5 rfl), if_neg (h 6 rfl), if_neg (h 7 rfl), if_neg (h 8 rfl), if_neg (h 9 rfl), if_neg (h 10 rfl)]
theorem named_le (l : List UInt8) : 0 ≤ named l ∧ named l ≤ 10 := by
  unfold named
  (repeat' split) <;> omega
theorem named_kin {l : List UInt8} (h : named l ≠ 0) : kK (named l) = true := by
  have := named_le l
  rw [kK_iff]; omega
theorem named_kN {l : List UInt8} (h : named l ≠ 0) : kN (named l) = l := by
  rcases Classical.em (∃ j : Int, kK j = true ∧ kN j = l) with ⟨j, hj, e⟩ | hn
  · rw [named_at hj e, e]
  · exact absurd (named_no fun j hj e => hn ⟨j, hj, e⟩) h
end Go.Lg.Fld
namespace Go.Proofs.Ytfmohdliifmmfaa
open Go Go.Lg Go.Lg.Fld
set_option maxRecDepth 100000
variable (X : Nat → Option Obj)
theorem Named_spec (l : List UInt8) : PSpec Try.prog X 25 [Ls l] (.tup [Sn .i64 (named l), Sb (named l != 0)]) := by
  refine PSpec.intro Try.func25 rfl (by kernel_rfl) rfl rfl ?_
  intro C
  (refine LWP.seq <| LWP.region (by kernel_rfl) <| kas rfl <| kas rfl <| RunK.nil <| LWP.seq <| LWP.seq <| LWP.region (by kernel_rfl) <| kas rfl <| RunK.nil <| LWP.block ?_)
  refine LWP.loop (fun m σ => ∃ i : Nat, 1 ≤ i ∧ i ≤ 11 ∧ m = 11 - i ∧ (∀ j : Int, 1 ≤ j → j < i → kN j ≠ l) ∧ σ = ⟨[(0, Ls l), (4, Ln .i64 (i : Nat))], [], X⟩) 10
    ⟨_, Le.of (by exact ⟨rfl, rfl, trivial⟩) (by exact trivial) (by exact rfl) (by exact rfl) (by exact rfl), 1, by omega, by omega, by omega, fun j h1 h2 => absurd h2 (by omega), rfl⟩ ?_
  rintro m σ ⟨i, h1, h11, rfl, hno, rfl⟩
  have hn := fName_spec X (i : Int)
  by_cases h : i ≤ 10
  · have hk : kK (i : Int) = true := by rw [kK_iff]; omega
    by_cases hq : kN (i : Int) = l
    · have hb : (kN (i : Int) == l) = true := by rw [hq]; exact beq_self_eq_true _
      rw [named_at hk hq, show ((i : Int) != 0) = true from bne_iff_ne.2 (by omega)]
      (refine LWP.seq <| LWP.seq <| LWP.region (by kernel_rfl) <| kmv rfl <| K.leq rfl rfl (decide_eq_true (by omega)) .plain <| RunK.nil <| LWP.condT rfl ?_; refine LWP.skip ?_; refine LWP.seq <| LWP.block <| LWP.seq <| LWP.region (by kernel_rfl) <| kmv rfl <| kca rfl rfl (hn) <| kmv rfl <| kse rfl rfl (strs_eq hb) <| RunK.nil <| LWP.condT rfl ?_; refine LWP.seq <| LWP.region (by kernel_rfl) <| kmv rfl <| kas rfl <| kas rfl <| RunK.nil <| LWP.ret ?_)
      exact ⟨[_, _], ⟨rfl, rfl, trivial⟩, rfl⟩
    · have hb : (kN (i : Int) == l) = false := beq_eq_false_iff_ne.2 hq
      (refine LWP.seq <| LWP.seq <| LWP.region (by kernel_rfl) <| kmv rfl <| K.leq rfl rfl (decide_eq_true (by omega)) .plain <| RunK.nil <| LWP.condT rfl ?_; refine LWP.skip ?_; refine LWP.seq <| LWP.block <| LWP.seq <| LWP.region (by kernel_rfl) <| kmv rfl <| kca rfl rfl (hn) <| kmv rfl <| kse rfl rfl (strs_eq hb) <| RunK.nil <| LWP.condF rfl ?_; refine LWP.skip ?_; refine LWP.region (by kernel_rfl) <| kmv rfl <| kad rfl rfl (wrap_i64 (by omega)) <| kas rfl <| RunK.nil ?_)
      exact ⟨_, _, by omega, Le.of (by exact ⟨rfl, rfl, trivial⟩) (by exact trivial) (by exact rfl) (by exact rfl) (by exact rfl), i + 1, by omega, by omega, rfl, fun j hj1 hj2 => (by
        by_cases e : j = (i : Int)
        · rw [e]; exact hq
        · exact hno j hj1 (by omega)), rfl⟩
  · have e : i = 11 := by omega
    subst e
    rw [named_no (fun j hj => hno j ((kK_iff j).1 hj).1 (by have := (kK_iff j).1 hj; omega))]
    (refine LWP.seq <| LWP.seq <| LWP.region (by kernel_rfl) <| kmv rfl <| K.leq rfl rfl (decide_eq_false (by omega)) .plain <| RunK.nil <| LWP.condF rfl ?_; refine LWP.exit <| LWP.seq <| LWP.region (by kernel_rfl) <| kas rfl <| kas rfl <| RunK.nil <| LWP.ret ?_)
    exact ⟨[_, _], ⟨rfl, rfl, trivial⟩, rfl⟩
theorem Get_arg (k : Int) (l : List UInt8) (hk : kK k = false) : PSpec Try.prog X 23 [Ln .i64 k, Ls l] (.tup [S0, Sn .i64 1]) := by
  refine PSpec.intro Try.func23 rfl (by kernel_rfl) rfl rfl ?_
  intro C
  (refine LWP.seq <| LWP.region (by kernel_rfl) <| K.alloc rfl .plain ?_; refine kas rfl <| RunK.nil <| LWP.seq <| LWP.seq <| LWP.region (by kernel_rfl) <| kmv rfl <| kca rfl rfl (isKind_spec X k false hk) <| K.not rfl rfl .plain <| RunK.nil <| LWP.condT rfl ?_; refine LWP.seq <| LWP.region (by kernel_rfl) <| K.build rfl rfl (by exact rfl) (by exact nl3 rfl rfl rfl rfl) .plain ?_; refine K.storeAll rfl rfl rfl rfl rfl rfl .plain ?_; refine kas rfl <| RunK.nil <| LWP.ret ?_)
  exact ⟨[_, _], ⟨⟨_, _, rfl, rfl, rfl, .inl ⟨AggT.h, rfl⟩⟩, rfl, trivial⟩, rfl⟩
theorem isW_k {k : Int} (h : kK k = true) : isW (kW k : Nat) = true := by
  rcases kW_in h with e | e | e | e <;> rw [e] <;> rfl
theorem Get_len (k : Int) (l : List UInt8) (hk : kK k = true) (hl : l.length < 4611686018427387904) (hn : l.length ≠ kW k) : PSpec Try.prog X 23 [Ln .i64 k, Ls l] (.tup [S0, Sn .i64 4]) := by
  have hS := fSize_spec X k
  have hw := isW_k hk
  have hR := Read_spec X l
  have h0 : (0 : Nat) < 256 ^ kW k := Nat.pow_pos (by decide)
  by_cases hlt : l.length < kW k
  · have hN := Num_no X l false (kW k : Nat) (by unfold rawOk; rw [decide_eq_false (by omega)]; simp)
    have hO := numberOf_spec X k 0 hk h0
    have hD : MSpec Try.prog X 44 [Lp 1000000] (rd 1000000 l true) (Lb false) (rd 1000000 l true) := Done_spec X l true _ rfl
    refine PSpec.intro Try.func23 rfl (by kernel_rfl) rfl rfl ?_
    intro C
    (refine LWP.seq <| LWP.region (by kernel_rfl) <| K.alloc rfl .plain ?_; refine kas rfl <| RunK.nil <| LWP.seq <| LWP.seq <| LWP.region (by kernel_rfl) <| kmv rfl <| kca rfl rfl (isKind_spec X k true hk) <| K.not rfl rfl .plain <| RunK.nil <| LWP.condF rfl ?_; refine LWP.skip ?_; refine LWP.seq <| LWP.region (by kernel_rfl) <| kmv rfl <| K.callMp [(1000001, 501)] (Lp 501) (rd 501 l false) (hR) rfl rfl (by exact trivial) rfl rfl rfl rfl rfl (by exact (.box rfl rfl .nil)) .plain <| kas rfl <| RunK.nil <| LWP.seq <| LWP.region (by kernel_rfl) <| kmv rfl <| kmv rfl <| kmv rfl <| kca rfl rfl (hS) <| K.callM [(1000000, 501)] (rd 501 l true) (hN) rfl rfl (by exact (And.intro ⟨_, rfl, rfl⟩ trivial)) (by exact (all_cons_true (all_cons_true rfl (all_cons_true rfl rfl)) rfl)) rfl rfl rfl rfl (by exact (.box rfl rfl .nil)) .plain <| kca rfl rfl (hO) ?_; refine K.alloc rfl .plain ?_; refine K.storeAll rfl rfl rfl rfl rfl rfl .plain ?_; refine RunK.nil <| LWP.seq <| LWP.seq <| LWP.region (by kernel_rfl) <| kmv rfl <| K.callR [(1000000, 501)] (hD) rfl rfl (by exact (And.intro ⟨_, rfl, rfl⟩ trivial)) (by exact (all_cons_true (all_cons_true rfl (all_cons_true rfl rfl)) rfl)) rfl rfl rfl rfl .plain <| K.not rfl rfl .plain <| kmv rfl <| RunK.passed rfl rfl rfl <| RunK.passed rfl rfl rfl <| RunK.passed rfl rfl rfl <| RunK.passed rfl rfl rfl <| kpt rfl rfl <| RunK.nil ?_; refine LWP.condT rfl ?_; refine LWP.seq <| LWP.region (by kernel_rfl) <| K.build rfl rfl (by exact rfl) (by exact nl3 rfl rfl rfl rfl) .plain ?_; refine K.storeAll rfl rfl rfl rfl rfl rfl .plain ?_; refine kas rfl <| RunK.nil <| LWP.ret ?_)
    exact ⟨[_, _], ⟨⟨_, _, rfl, rfl, rfl, .inl ⟨AggT.h, rfl⟩⟩, rfl, trivial⟩, rfl⟩
  · have hN := Num_ok X l (kW k) hw (by omega) hl
    have ht : (l.take (kW k)).length = kW k := by rw [List.length_take]; omega
    have hb := le_lt (l.take (kW k))
    rw [ht] at hb
    have hO := numberOf_spec X k (le (l.take (kW k))) hk hb
    have hd : (l.drop (kW k) == []) = false := beq_eq_false_iff_ne.2 (fun e => by
      have := congrArg List.length e
      rw [List.length_drop] at this
      simp only [List.length_nil] at this
      omega)
    have hD : MSpec Try.prog X 44 [Lp 1000000] (rd 1000000 (l.drop (kW k)) false) (Lb false) (rd 1000000 (l.drop (kW k)) false) := Done_spec X _ false _ hd
    refine PSpec.intro Try.func23 rfl (by kernel_rfl) rfl rfl ?_
    intro C
    (refine LWP.seq <| LWP.region (by kernel_rfl) <| K.alloc rfl .plain ?_; refine kas rfl <| RunK.nil <| LWP.seq <| LWP.seq <| LWP.region (by kernel_rfl) <| kmv rfl <| kca rfl rfl (isKind_spec X k true hk) <| K.not rfl rfl .plain <| RunK.nil <| LWP.condF rfl ?_; refine LWP.skip ?_; refine LWP.seq <| LWP.region (by kernel_rfl) <| kmv rfl <| K.callMp [(1000001, 501)] (Lp 501) (rd 501 l false) (hR) rfl rfl (by exact trivial) rfl rfl rfl rfl rfl (by exact (.box rfl rfl .nil)) .plain <| kas rfl <| RunK.nil <| LWP.seq <| LWP.region (by kernel_rfl) <| kmv rfl <| kmv rfl <| kmv rfl <| kca rfl rfl (hS) <| K.callM [(1000000, 501)] (rd 501 (l.drop (kW k)) false) (hN) rfl rfl (by exact (And.intro ⟨_, rfl, rfl⟩ trivial)) (by exact (all_cons_true (all_cons_true rfl (all_cons_true rfl rfl)) rfl)) rfl rfl rfl rfl (by exact (.box rfl rfl .nil)) .plain <| kca rfl rfl (hO) ?_; refine K.alloc rfl .plain ?_; refine K.storeAll rfl rfl rfl rfl rfl rfl .plain ?_; refine RunK.nil <| LWP.seq <| LWP.seq <| LWP.region (by kernel_rfl) <| kmv rfl <| K.callR [(1000000, 501)] (hD) rfl rfl (by exact (And.intro ⟨_, rfl, rfl⟩ trivial)) (by exact (all_cons_true (all_cons_true rfl (all_cons_true rfl rfl)) rfl)) rfl rfl rfl rfl .plain <| K.not rfl rfl .plain <| kmv rfl <| RunK.passed rfl rfl rfl <| RunK.passed rfl rfl rfl <| RunK.passed rfl rfl rfl <| RunK.passed rfl rfl rfl <| kpt rfl rfl <| RunK.nil ?_; refine LWP.condT rfl ?_; refine LWP.seq <| LWP.region (by kernel_rfl) <| K.build rfl rfl (by exact rfl) (by exact nl3 rfl rfl rfl rfl) .plain ?_; refine K.storeAll rfl rfl rfl rfl rfl rfl .plain ?_; refine kas rfl <| RunK.nil <| LWP.ret ?_)
    exact ⟨[_, _], ⟨⟨_, _, rfl, rfl, rfl, .inl ⟨AggT.h, rfl⟩⟩, rfl, trivial⟩, rfl⟩
theorem Get_q (k : Int) (l : List UInt8) (hk : kK k = true) (hn : l.length = kW k) : PSpec Try.prog X 23 [Ln .i64 k, Ls l] (if fitZ k (nbK k (le l)) = true then .tup [SQ (nbK k (le l)), Sn .i64 0] else .tup [S0, Sn .i64 4]) := by
  have hS := fSize_spec X k
  have hw := isW_k hk
  have hR := Read_spec X l
  have hk8 := (kfacts k).2.2.2.2
  have hN := Num_ok X l (kW k) hw (by omega) (by omega)
  rw [List.take_of_length_le (by omega), List.drop_of_length_le (by omega)] at hN
  have hb := le_lt l
  rw [hn] at hb
  have hO := numberOf_spec X k (le l) hk hb
  have hR' := nb_R hk hb
  have hD : MSpec Try.prog X 44 [Lp 1000000] (rd 1000000 [] false) (Lb true) (rd 1000000 [] false) := Done_spec X [] false true rfl
  have hF := Fits_q X k (nbK k (le l)) hk hR' _ rfl
  generalize nbK k (le l) = z at *
  generalize le l = n at *
  cases hf : fitZ k z with
  | true =>
    rw [hf] at hF
    rw [if_pos rfl]
    refine PSpec.intro Try.func23 rfl (by kernel_rfl) rfl rfl ?_
    intro C
    (refine LWP.seq <| LWP.region (by kernel_rfl) <| K.alloc rfl .plain ?_; refine kas rfl <| RunK.nil <| LWP.seq <| LWP.seq <| LWP.region (by kernel_rfl) <| kmv rfl <| kca rfl rfl (isKind_spec X k true hk) <| K.not rfl rfl .plain <| RunK.nil <| LWP.condF rfl ?_; refine LWP.skip ?_; refine LWP.seq <| LWP.region (by kernel_rfl) <| kmv rfl <| K.callMp [(1000001, 501)] (Lp 501) (rd 501 l false) (hR) rfl rfl (by exact trivial) rfl rfl rfl rfl rfl (by exact (.box rfl rfl .nil)) .plain <| kas rfl <| RunK.nil <| LWP.seq <| LWP.region (by kernel_rfl) <| kmv rfl <| kmv rfl <| kmv rfl <| kca rfl rfl (hS) <| K.callM [(1000000, 501)] (rd 501 [] false) (hN) rfl rfl (by exact (And.intro ⟨_, rfl, rfl⟩ trivial)) (by exact (all_cons_true (all_cons_true rfl (all_cons_true rfl rfl)) rfl)) rfl rfl rfl rfl (by exact (.box rfl rfl .nil)) .plain <| kca rfl rfl (hO) ?_; refine K.alloc rfl .plain ?_; refine K.storeAll rfl rfl rfl rfl rfl rfl .plain ?_; refine RunK.nil <| LWP.seq <| LWP.seq <| LWP.region (by kernel_rfl) <| kmv rfl <| K.callR [(1000000, 501)] (hD) rfl rfl (by exact (And.intro ⟨_, rfl, rfl⟩ trivial)) (by exact (all_cons_true (all_cons_true rfl (all_cons_true rfl rfl)) rfl)) rfl rfl rfl rfl .plain <| K.not rfl rfl .plain <| kmv rfl <| gmv rfl rfl rfl <| K.loadAll rfl rfl rfl (.taken rfl rfl) ?_; refine gca rfl rfl (hF) rfl rfl <| K.not rfl rfl (.taken rfl rfl) ?_; refine kpf rfl rfl <| RunK.nil <| LWP.condF rfl ?_; refine LWP.skip ?_; refine LWP.seq <| LWP.region (by kernel_rfl) <| K.loadAll rfl rfl rfl .plain ?_; refine K.storeAll rfl rfl rfl rfl rfl rfl .plain ?_; refine kas rfl <| RunK.nil <| LWP.ret ?_)
    exact ⟨[_, _], ⟨⟨_, _, rfl, rfl, rfl, .inl ⟨AggT.h, rfl⟩⟩, rfl, trivial⟩, rfl⟩
  | false =>
    rw [hf] at hF
    rw [if_neg (by simp)]
    refine PSpec.intro Try.func23 rfl (by kernel_rfl) rfl rfl ?_
    intro C
    (refine LWP.seq <| LWP.region (by kernel_rfl) <| K.alloc rfl .plain ?_; refine kas rfl <| RunK.nil <| LWP.seq <| LWP.seq <| LWP.region (by kernel_rfl) <| kmv rfl <| kca rfl rfl (isKind_spec X k true hk) <| K.not rfl rfl .plain <| RunK.nil <| LWP.condF rfl ?_; refine LWP.skip ?_; refine LWP.seq <| LWP.region (by kernel_rfl) <| kmv rfl <| K.callMp [(1000001, 501)] (Lp 501) (rd 501 l false) (hR) rfl rfl (by exact trivial) rfl rfl rfl rfl rfl (by exact (.box rfl rfl .nil)) .plain <| kas rfl <| RunK.nil <| LWP.seq <| LWP.region (by kernel_rfl) <| kmv rfl <| kmv rfl <| kmv rfl <| kca rfl rfl (hS) <| K.callM [(1000000, 501)] (rd 501 [] false) (hN) rfl rfl (by exact (And.intro ⟨_, rfl, rfl⟩ trivial)) (by exact (all_cons_true (all_cons_true rfl (all_cons_true rfl rfl)) rfl)) rfl rfl rfl rfl (by exact (.box rfl rfl .nil)) .plain <| kca rfl rfl (hO) ?_; refine K.alloc rfl .plain ?_; refine K.storeAll rfl rfl rfl rfl rfl rfl .plain ?_; refine RunK.nil <| LWP.seq <| LWP.seq <| LWP.region (by kernel_rfl) <| kmv rfl <| K.callR [(1000000, 501)] (hD) rfl rfl (by exact (And.intro ⟨_, rfl, rfl⟩ trivial)) (by exact (all_cons_true (all_cons_true rfl (all_cons_true rfl rfl)) rfl)) rfl rfl rfl rfl .plain <| K.not rfl rfl .plain <| kmv rfl <| gmv rfl rfl rfl <| K.loadAll rfl rfl rfl (.taken rfl rfl) ?_; refine gca rfl rfl (hF) rfl rfl <| K.not rfl rfl (.taken rfl rfl) ?_; refine kpf rfl rfl <| RunK.nil <| LWP.condT rfl ?_; refine LWP.seq <| LWP.region (by kernel_rfl) <| K.build rfl rfl (by exact rfl) (by exact nl3 rfl rfl rfl rfl) .plain ?_; refine K.storeAll rfl rfl rfl rfl rfl rfl .plain ?_; refine kas rfl <| RunK.nil <| LWP.ret ?_)
    exact ⟨[_, _], ⟨⟨_, _, rfl, rfl, rfl, .inl ⟨AggT.h, rfl⟩⟩, rfl, trivial⟩, rfl⟩
end Go.Proofs.Ytfmohdliifmmfaa
