/- A piece of a proof over this program: contracts of its functions, and a logic to prove them by. -/
import Derived.Test.YtimpjdbhalnofaaGreatDoorP2
import Derived.Test.YtimpjdbhalnofaaGreatDoorP3
import Derived.Test.YtimpjdbhalnofaaGreatDoorP4
import Derived.Test.YtimpjdbhalnofaaGreatDoorP5
import Derived.Test.YtimpjdbhalnofaaGreatDoorP6
import Derived.Test.YtimpjdbhalnofaaGreatDoorRows
import Derived.Test.YtimpjdbhalnofaaGreatDoorTie
import Derived.Test.YtimpjdbhalnofaaGreatDoorCards
import Derived.ProofKit
import Derived.LaidMore
import Derived.OpenShut
import Derived.Stop.Joined
import Derived.Stop.LaidErr
import Derived.Lib.SmallJoins
import Derived.SevenTiedAt
section
namespace Go.Proofs.YtimpjdbhalnofaaGreatDoor
open Go Go.Lg Go.Lg.Fml Go.Lg.Fld Go.Lg.Arith
set_option maxRecDepth 100000
def eS : List UInt8 × Bool → UInt8 × List UInt8 × Bool
  | (c :: t, false) => (c, t, false)
  | (l, _) => (0, l, true)
def eW : List UInt8 × Bool → Nat × List UInt8 × Bool
  | (l, b) => if b = false ∧ 8 ≤ l.length then (le (l.take 8), l.drop 8, false) else (0, l, true)
def eN (x : List UInt8 × Bool) : (Nm × Bool) × List UInt8 × Bool :=
  if 1 < (eS x).1.toNat then (((false, 0), false), (eS x).2)
  else (((decide ((eS x).1.toNat = 1), (((eW (eS x).2).1 + 18446744073709551616 * (eW (eW (eS x).2).2).1 : Nat) : Int)), true), (eW (eW (eS x).2).2).2)
def eI (x : List UInt8 × Bool) : (Ins × Bool) × List UInt8 × Bool :=
  if (eS x).1.toNat = 1 then ((⟨1, 0, 0, (eN (eS x).2).1.1⟩, (eN (eS x).2).1.2), (eN (eS x).2).2)
  else if (eS x).1.toNat = 2 then ((⟨2, ((eS (eS x).2).1.toNat : Nat), ((eS (eS (eS x).2).2).1.toNat : Nat), (false, 0)⟩, true), (eS (eS (eS x).2).2).2)
  else if (eS x).1.toNat = 3 then ((⟨3, ((eS (eS x).2).1.toNat : Nat), 0, (false, 0)⟩, true), (eS (eS x).2).2)
  else ((⟨((eS x).1.toNat : Nat), 0, 0, (false, 0)⟩, true), (eS x).2)
def eIs (x : List UInt8 × Bool) : Nat → Option (List Ins × List UInt8 × Bool)
  | 0 => some ([], x)
  | n + 1 => match eIs x n with
    | none => none
    | some (q, y) => if (eI y).1.2 = true then some (q ++ [(eI y).1.1], (eI y).2) else none
def Lss (x y : List UInt8 × Bool) : Prop := y.1.length ≤ x.1.length ∧ (x.2 = true → y.2 = true)
theorem Lss.trans {x y z : List UInt8 × Bool} (h : Lss x y) (h' : Lss y z) : Lss x z := ⟨Nat.le_trans h'.1 h.1, fun e => h'.2 (h.2 e)⟩
theorem eS_less (x : List UInt8 × Bool) : Lss x (eS x).2 := by
  obtain ⟨l, b⟩ := x
  cases b <;> cases l <;> simp [eS, Lss]
theorem eW_less (x : List UInt8 × Bool) : Lss x (eW x).2 := by
  obtain ⟨l, b⟩ := x
  unfold eW
  simp only
  by_cases h : b = false ∧ 8 ≤ l.length
  · rw [if_pos h]; exact ⟨by simp only [List.length_drop]; omega, fun e => (by rw [h.1] at e; cases e)⟩
  · rw [if_neg h]; exact ⟨Nat.le_refl _, fun _ => rfl⟩
theorem eW_lt (x : List UInt8 × Bool) : (eW x).1 < 18446744073709551616 := by
  obtain ⟨l, b⟩ := x
  unfold eW
  simp only
  split
  · have := le_lt (l.take 8)
    have hp : (256 : Nat) ^ 8 = 18446744073709551616 := by decide
    have h8 : (l.take 8).length = 8 := by rw [List.length_take]; omega
    rw [h8] at this
    simp only
    omega
  · show 0 < 18446744073709551616
    omega
theorem eN_less (x : List UInt8 × Bool) : Lss x (eN x).2 := by
  unfold eN
  split
  · exact eS_less x
  · exact ((eS_less x).trans (eW_less _)).trans (eW_less _)
theorem eN_in2 (x : List UInt8 × Bool) : In2 (eN x).1.1.2 := by
  unfold eN In2
  split
  · show 0 ≤ (0 : Int) ∧ (0 : Int) < 340282366920938463463374607431768211456
    omega
  · have := eW_lt (eS x).2
    have := eW_lt (eW (eS x).2).2
    simp only
    omega
theorem eI_less (x : List UInt8 × Bool) : Lss x (eI x).2 := by
  unfold eI
  split
  · exact (eS_less x).trans (eN_less _)
  · split
    · exact ((eS_less x).trans (eS_less _)).trans (eS_less _)
    · split
      · exact (eS_less x).trans (eS_less _)
      · exact eS_less x
theorem eI_small (x : List UInt8 × Bool) : smallI (eI x).1.1 := by
  have h1 := (eS x).1.toNat_lt
  have h2 := (eS (eS x).2).1.toNat_lt
  have h3 := (eS (eS (eS x).2).2).1.toNat_lt
  have h4 := eN_in2 (eS x).2
  have h5 : In2 (0 : Int) := ⟨by decide, by decide⟩
  unfold eI smallI
  split
  · exact ⟨by simp only; omega, by simp only; omega, by simp only; omega, h4⟩
  · split
    · exact ⟨by simp only; omega, by simp only; omega, by simp only; omega, h5⟩
    · split
      · exact ⟨by simp only; omega, by simp only; omega, by simp only; omega, h5⟩
      · exact ⟨by simp only; omega, by simp only; omega, by simp only; omega, h5⟩
theorem eIs_len {x : List UInt8 × Bool} : ∀ {n : Nat} {q : List Ins} {y : List UInt8 × Bool}, eIs x n = some (q, y) → q.length = n ∧ Lss x y ∧ ∀ z ∈ q, smallI z
  | 0, q, y, h => by
    simp only [eIs, Option.some.injEq, Prod.mk.injEq] at h
    obtain ⟨rfl, rfl⟩ := h
    exact ⟨rfl, ⟨Nat.le_refl _, id⟩, fun z hz => absurd hz (by simp)⟩
  | n + 1, q, y, h => by
    simp only [eIs] at h
    cases hp : eIs x n with
    | none => rw [hp] at h; cases h
    | some p =>
      obtain ⟨q0, y0⟩ := p
      rw [hp] at h
      simp only at h
      split at h
      · simp only [Option.some.injEq, Prod.mk.injEq] at h
        obtain ⟨rfl, rfl⟩ := h
        obtain ⟨h1, h2, h3⟩ := eIs_len hp
        refine ⟨by rw [List.length_append, h1]; rfl, h2.trans (eI_less y0), fun z hz => ?_⟩
        rcases List.mem_append.1 hz with hz | hz
        · exact h3 z hz
        · rw [List.mem_singleton] at hz; subst hz; exact eI_small y0
      · cases h
theorem eIs_none {x : List UInt8 × Bool} {i : Nat} (h : eIs x i = none) : ∀ k, eIs x (i + k) = none
  | 0 => h
  | k + 1 => by rw [← Nat.add_assoc]; simp only [eIs]; rw [eIs_none h k]
theorem eIs_front (x : List UInt8 × Bool) : ∀ n, eIs x (n + 1) = if (eI x).1.2 = true then (eIs (eI x).2 n).map (fun p => ((eI x).1.1 :: p.1, p.2)) else none
  | 0 => by simp only [eIs]; split <;> rfl
  | n + 1 => by
    show (match eIs x (n + 1) with | none => none | some (q, y) => if (eI y).1.2 = true then some (q ++ [(eI y).1.1], (eI y).2) else none) = _
    rw [eIs_front x n]
    by_cases c : (eI x).1.2 = true
    · rw [if_pos c, if_pos c]
      simp only [eIs]
      cases eIs (eI x).2 n with
      | none => rfl
      | some p =>
        obtain ⟨q, y⟩ := p
        simp only [Option.map_some]
        by_cases d : (eI y).1.2 = true
        · rw [if_pos d, if_pos d]; rfl
        · rw [if_neg d, if_neg d]; rfl
    · rw [if_neg c, if_neg c]
theorem eW_get (r : List UInt8) : (8 ≤ r.length → eW (r, false) = (le (r.take 8), r.drop 8, false)) ∧ (¬ 8 ≤ r.length → (eW (r, false)).2.2 = true) := ⟨fun h => if_pos ⟨rfl, h⟩, fun h => by unfold eW; simp only; rw [if_neg (fun c => h c.2)]⟩
theorem eI_get (l : List UInt8) : (∃ x r, getI l = some (x, r) ∧ eI (l, false) = ((x, true), r, false)) ∨ (getI l = none ∧ ((eI (l, false)).1.2 = false ∨ (eI (l, false)).2.2 = true)) := by
  cases l with
  | nil => exact .inr ⟨rfl, .inr rfl⟩
  | cons o r =>
    unfold getI eI
    rw [show eS (o :: r, false) = (o, r, false) from rfl]
    simp only
    by_cases e1 : o.toNat = 1
    · rw [if_pos e1, if_pos e1]
      cases r with
      | nil => exact .inr ⟨rfl, .inr (by unfold eN; rw [show eS ([], false) = (0, [], true) from rfl]; rfl)⟩
      | cons s r =>
        unfold eN
        rw [show eS (s :: r, false) = (s, r, false) from rfl]
        simp only
        by_cases hs : 1 < s.toNat
        · rw [if_pos hs, if_neg (by omega)]
          exact .inr ⟨rfl, .inl rfl⟩
        · rw [if_neg hs]
          by_cases h16 : 16 ≤ r.length
          · rw [if_pos ⟨by omega, h16⟩]
            rw [(eW_get r).1 (by omega)]
            simp only
            rw [(eW_get (r.drop 8)).1 (by rw [List.length_drop]; omega)]
            refine .inl ⟨_, _, rfl, ?_⟩
            rw [List.drop_drop]
          · rw [if_neg (fun h => h16 h.2)]
            refine .inr ⟨rfl, .inr ?_⟩
            simp only
            by_cases h8 : 8 ≤ r.length
            · rw [(eW_get r).1 h8]
              exact (eW_get (r.drop 8)).2 (by rw [List.length_drop]; omega)
            · exact (eW_less _).2 ((eW_get r).2 h8)
    · rw [if_neg e1, if_neg e1]
      by_cases e2 : o.toNat = 2
      · rw [if_pos e2, if_pos e2]
        match r with
        | [] => exact .inr ⟨rfl, .inr rfl⟩
        | [a] => exact .inr ⟨rfl, .inr rfl⟩
        | a :: b :: r => exact .inl ⟨_, _, rfl, rfl⟩
      · rw [if_neg e2, if_neg e2]
        by_cases e3 : o.toNat = 3
        · rw [if_pos e3, if_pos e3]
          match r with
          | [] => exact .inr ⟨rfl, .inr rfl⟩
          | a :: r => exact .inl ⟨_, _, rfl, rfl⟩
        · rw [if_neg e3, if_neg e3]
          exact .inl ⟨_, _, rfl, rfl⟩
theorem eIs_bad {x : List UInt8 × Bool} (hb : x.2 = true) {n : Nat} {q : List Ins} {y : List UInt8 × Bool} (h : eIs x n = some (q, y)) : y.2 = true := (eIs_len h).2.1.2 hb
theorem eIs_get : ∀ (n : Nat) (l : List UInt8), (∃ q r, getIs n l = some (q, r) ∧ eIs (l, false) n = some (q, r, false)) ∨ (getIs n l = none ∧ (eIs (l, false) n = none ∨ ∃ q y, eIs (l, false) n = some (q, y) ∧ y.2 = true))
  | 0, l => .inl ⟨[], l, rfl, rfl⟩
  | n + 1, l => by
    rw [eIs_front]
    simp only [getIs]
    rcases eI_get l with ⟨x, r, h1, h2⟩ | ⟨h1, h2⟩
    · rw [h1, h2, if_pos rfl]
      simp only
      rcases eIs_get n r with ⟨q, r2, h3, h4⟩ | ⟨h3, h4⟩
      · rw [h3, h4]
        exact .inl ⟨_, _, rfl, rfl⟩
      · rw [h3]
        rcases h4 with h4 | ⟨q, y, h4, h5⟩
        · rw [h4]; exact .inr ⟨rfl, .inl rfl⟩
        · rw [h4]; exact .inr ⟨rfl, .inr ⟨_, _, rfl, h5⟩⟩
    · rw [h1]
      refine .inr ⟨rfl, ?_⟩
      rcases h2 with h2 | h2
      · rw [if_neg (by rw [h2]; decide)]; exact .inl rfl
      · by_cases c : (eI (l, false)).1.2 = true
        · rw [if_pos c]
          cases hp : eIs (eI (l, false)).2 n with
          | none => exact .inl rfl
          | some p =>
            obtain ⟨q, y⟩ := p
            exact .inr ⟨_, _, rfl, eIs_bad h2 hp⟩
        · rw [if_neg c]; exact .inl rfl
theorem decX_e (s : List UInt8) : decX s = match eIs (eS (s, false)).2 (eS (s, false)).1.toNat with
    | none => none
    | some (q, y) => if (!y.2 && (y.1 == [])) = true ∧ chkX q = 0 then some q else none := by
  cases s with
  | nil => rfl
  | cons n r =>
    rw [show eS (n :: r, false) = (n, r, false) from rfl]
    simp only [decX]
    rcases eIs_get n.toNat r with ⟨q, r2, h3, h4⟩ | ⟨h3, h4⟩
    · rw [h3, h4]
      cases r2 with
      | nil =>
        simp only
        by_cases c : chkX q = 0
        · rw [if_pos c, if_pos ⟨rfl, c⟩]
        · rw [if_neg c, if_neg (fun h => c h.2)]
      | cons a r2 =>
        simp only
        rw [if_neg (fun h => by simp at h)]
    · rw [h3]
      rcases h4 with h4 | ⟨q, y, h4, h5⟩
      · rw [h4]
      · rw [h4]
        simp only
        rw [if_neg (fun h => by rw [h5] at h; simp at h)]
variable (X : Nat → Option Obj)
theorem eNum1 (l : List UInt8) (b : Bool) (hl : l.length < 4611686018427387904) : MSpec Tryz.prog X 75 [Lp 1000000, Ln .i64 1] (rd 1000000 l b) (Ln .u64 ((eS (l, b)).1.toNat : Nat)) (rd 1000000 (eS (l, b)).2.1 (eS (l, b)).2.2) := by
  cases b with
  | true => have h := Num_no X l true 1 rfl; cases l <;> exact h
  | false => cases l with
    | nil => exact Num_no X [] false 1 rfl
    | cons c t =>
      have h1 := Num_ok X (c :: t) 1 rfl (by simp) hl
      rw [show ((c :: t).take 1) = [c] from rfl, show ((c :: t).drop 1) = t from rfl, show le [c] = c.toNat by simp [le]] at h1
      exact h1
theorem eNum8 (l : List UInt8) (b : Bool) (hl : l.length < 4611686018427387904) : MSpec Tryz.prog X 75 [Lp 1000000, Ln .i64 8] (rd 1000000 l b) (Ln .u64 ((eW (l, b)).1 : Nat)) (rd 1000000 (eW (l, b)).2.1 (eW (l, b)).2.2) := by
  by_cases h : b = false ∧ 8 ≤ l.length
  · rw [show eW (l, b) = (le (l.take 8), l.drop 8, false) from if_pos h]
    obtain ⟨rfl, h4⟩ := h
    exact Num_ok X l 8 rfl h4 hl
  · rw [show eW (l, b) = (0, l, true) from if_neg h]
    refine Num_no X l b 8 ?_
    unfold rawOk
    cases b with
    | true => rfl
    | false => rw [decide_eq_false (by simp only [true_and] at h; omega)]; rfl
theorem eTake (l : List UInt8) (b : Bool) (hl : l.length < 4611686018427387904) : MSpec Tryz.prog X 45 [Lp 1000000] (rd 1000000 l b) (Ln .i64 ((eS (l, b)).1.toNat : Nat)) (rd 1000000 (eS (l, b)).2.1 (eS (l, b)).2.2) := by
  have h := eNum1 X l b hl
  have hk := (eS (l, b)).1.toNat_lt
  generalize (eS (l, b)).1.toNat = k at *
  generalize (eS (l, b)).2.1 = l2 at *
  generalize (eS (l, b)).2.2 = b2 at *
  refine MSpec.intro Tryz.func45 rfl (by kernel_rfl) rfl rfl rfl rfl rfl ?_
  intro C
  have hw : IntKind.i64.wrap ((k : Nat) : Int) = ((k : Nat) : Int) := wrap_i64 (by omega)
  (refine LWP.seq <| LWP.region (by kernel_rfl) <| kas rfl <| RunK.nil <| LWP.seq <| LWP.region (by kernel_rfl) <| kmv rfl <| K.callM [] (rd 1000000 l2 b2) (h) rfl rfl (by exact (And.intro ⟨_, rfl, rfl⟩ trivial)) (by exact (all_cons_true (all_cons_true rfl (all_cons_true rfl rfl)) rfl)) rfl rfl rfl rfl (by exact (.box rfl rfl .nil)) .plain <| kcv rfl hw ?_; refine kas rfl <| RunK.nil <| LWP.ret ?_)
  exact ⟨[], ⟨[_], ⟨rfl, trivial⟩, rfl⟩, ⟨⟨_, rfl, rfl⟩, trivial⟩, rfl, rfl⟩
set_option maxHeartbeats 1600000 in
theorem eTakeNum (l : List UInt8) (b : Bool) (hl : l.length < 4611686018427387904) : MSpec Tryz.prog X 76 [Lp 1000000] (rd 1000000 l b) (.tup [SI (eN (l, b)).1.1.1 (eN (l, b)).1.1.2, Sb (eN (l, b)).1.2]) (rd 1000000 (eN (l, b)).2.1 (eN (l, b)).2.2) := by
  have h1 := eTake X l b hl
  have g1 := (eS_less (l, b)).1
  unfold eN
  rcases hy1 : eS (l, b) with ⟨c, l1, b1⟩
  rw [hy1] at h1 g1
  simp only at h1 g1 ⊢
  have hc := c.toNat_lt
  by_cases c1 : 1 < c.toNat
  · rw [if_pos c1]
    refine MSpec.intro Tryz.func76 rfl (by kernel_rfl) rfl rfl rfl rfl rfl ?_
    intro C
    (refine LWP.seq <| LWP.region (by kernel_rfl) <| K.alloc rfl .plain ?_; refine kas rfl <| RunK.nil <| LWP.seq <| LWP.region (by kernel_rfl) <| kmv rfl <| K.callM [] (rd 1000000 l1 b1) (h1) rfl rfl (by exact (And.intro ⟨_, rfl, rfl⟩ trivial)) (by exact (all_cons_true (all_cons_true rfl (all_cons_true rfl rfl)) rfl)) rfl rfl rfl rfl (by exact (.box rfl rfl .nil)) .plain <| kas rfl <| RunK.nil <| LWP.seq <| LWP.seq <| LWP.region (by kernel_rfl) <| kmv rfl <| K.gtr rfl rfl (r := true) (decide_eq_true (by omega)) .plain <| RunK.nil ?_; refine LWP.condT rfl ?_; refine LWP.seq <| LWP.region (by kernel_rfl) <| K.build rfl rfl (by exact rfl) (by exact nl3 rfl rfl rfl rfl) .plain ?_; refine K.storeAll rfl rfl rfl rfl rfl rfl .plain ?_; refine kas rfl <| RunK.nil <| LWP.ret ?_)
    exact ⟨[], ⟨[_, _], ⟨⟨_, _, rfl, rfl, rfl, .inl ⟨AggT.h, rfl⟩⟩, rfl, trivial⟩, rfl⟩, ⟨⟨_, rfl, rfl⟩, trivial⟩, rfl, rfl⟩
  · rw [if_neg c1]
    have h2 := eNum8 X l1 b1 (by omega)
    have g2 := (eW_less (l1, b1)).1
    have k2 := eW_lt (l1, b1)
    rcases hy2 : eW (l1, b1) with ⟨lo, l2, b2⟩
    rw [hy2] at h2 g2 k2
    simp only at h2 g2 k2 ⊢
    have h3 := eNum8 X l2 b2 (by omega)
    have k3 := eW_lt (l2, b2)
    rcases hy3 : eW (l2, b2) with ⟨hi, l3, b3⟩
    rw [hy3] at h3 k3
    simp only at h3 k3 ⊢
    have e1 : ((lo + 18446744073709551616 * hi : Nat) : Int) / 18446744073709551616 = ((hi : Nat) : Int) := by omega
    have e2 : ((lo + 18446744073709551616 * hi : Nat) : Int) % 18446744073709551616 = ((lo : Nat) : Int) := by omega
    unfold SI
    rw [e1, e2]
    have hsg : (((c.toNat : Nat) : Int) == 1) = decide (c.toNat = 1) := by
      by_cases h : c.toNat = 1
      · rw [h]; rfl
      · rw [decide_eq_false h]; exact beq_eq_false_iff_ne.2 (by omega)
    generalize decide (c.toNat = 1) = sg at *
    refine MSpec.intro Tryz.func76 rfl (by kernel_rfl) rfl rfl rfl rfl rfl ?_
    intro C
    (refine LWP.seq <| LWP.region (by kernel_rfl) <| K.alloc rfl .plain ?_; refine kas rfl <| RunK.nil <| LWP.seq <| LWP.region (by kernel_rfl) <| kmv rfl <| K.callM [] (rd 1000000 l1 b1) (h1) rfl rfl (by exact (And.intro ⟨_, rfl, rfl⟩ trivial)) (by exact (all_cons_true (all_cons_true rfl (all_cons_true rfl rfl)) rfl)) rfl rfl rfl rfl (by exact (.box rfl rfl .nil)) .plain <| kas rfl <| RunK.nil <| LWP.seq <| LWP.seq <| LWP.region (by kernel_rfl) <| kmv rfl <| K.gtr rfl rfl (r := false) (decide_eq_false (by omega)) .plain <| RunK.nil ?_; refine LWP.condF rfl ?_; refine LWP.skip ?_; refine LWP.seq <| LWP.region (by kernel_rfl) <| kmv rfl <| keq rfl rfl hsg <| K.build rfl rfl (by exact rfl) (by exact nl3 rfl rfl rfl rfl) .plain ?_; refine K.alloc rfl .plain ?_; refine K.storeAll rfl rfl rfl rfl rfl rfl .plain ?_; refine RunK.nil <| LWP.seq <| LWP.region (by kernel_rfl) <| kmv rfl <| K.callM [] (rd 1000000 l2 b2) (h2) rfl rfl (by exact (And.intro ⟨_, rfl, rfl⟩ trivial)) (by exact (all_cons_true (all_cons_true rfl (all_cons_true rfl rfl)) rfl)) rfl rfl rfl rfl (by exact (.box rfl rfl .nil)) .plain <| kfa rfl rfl ?_; refine K.storeOne rfl rfl rfl rfl rfl (nl3 rfl rfl rfl rfl) .plain <| RunK.nil <| LWP.seq <| LWP.region (by kernel_rfl) <| kmv rfl <| K.callM [] (rd 1000000 l3 b3) (h3) rfl rfl (by exact (And.intro ⟨_, rfl, rfl⟩ trivial)) (by exact (all_cons_true (all_cons_true rfl (all_cons_true rfl rfl)) rfl)) rfl rfl rfl rfl (by exact (.box rfl rfl .nil)) .plain <| kfa rfl rfl ?_; refine K.storeOne rfl rfl rfl rfl rfl (nl3 rfl rfl rfl rfl) .plain <| RunK.nil <| LWP.seq <| LWP.region (by kernel_rfl) <| K.loadAll rfl rfl rfl .plain ?_; refine K.storeAll rfl rfl rfl rfl rfl rfl .plain ?_; refine kas rfl <| RunK.nil <| LWP.ret ?_)
    exact ⟨[], ⟨[_, _], ⟨⟨_, _, rfl, rfl, rfl, .inl ⟨AggT.h, rfl⟩⟩, rfl, trivial⟩, rfl⟩, ⟨⟨_, rfl, rfl⟩, trivial⟩, rfl, rfl⟩
theorem rowL_no {op : Int} (h1 : op ≠ 1) (h2 : op ≠ 2) (h3 : op ≠ 3) : rowL op = [.string ⟨(wordS op).toArray⟩, .int .i64 (takes op : Nat), .bool false, .bool false, .bool false] := by
  unfold rowL
  rw [beq_eq_false_iff_ne.2 h1, beq_eq_false_iff_ne.2 h2, beq_eq_false_iff_ne.2 h3]
  rfl
set_option maxHeartbeats 3200000 in
theorem eTakeIns (l : List UInt8) (b : Bool) (hl : l.length < 4611686018427387904) : MSpec Tryz.prog X 46 [Lp 1000000] (rd 1000000 l b) (.tup [.agg ((insV (eI (l, b)).1.1).map .val), Sb (eI (l, b)).1.2]) (rd 1000000 (eI (l, b)).2.1 (eI (l, b)).2.2) := by
  have h1 := eTake X l b hl
  have g1 := (eS_less (l, b)).1
  unfold eI
  rcases hy1 : eS (l, b) with ⟨c, l1, b1⟩
  rw [hy1] at h1 g1
  simp only at h1 g1 ⊢
  have hc := c.toNat_lt
  by_cases c1 : c.toNat = 1
  · rw [if_pos c1]
    rw [c1] at h1
    have h1 : MSpec Tryz.prog X 45 [Lp 1000000] (rd 1000000 l b) (Ln .i64 1) (rd 1000000 l1 b1) := h1
    have h2 := eTakeNum X l1 b1 (by omega)
    rcases hy2 : eN (l1, b1) with ⟨⟨⟨kb, kN⟩, is⟩, l2, b2⟩
    rw [hy2] at h2
    simp only at h2 ⊢
    refine MSpec.intro Tryz.func46 rfl (by kernel_rfl) rfl rfl rfl rfl rfl ?_
    intro C
    (refine LWP.seq <| LWP.region (by kernel_rfl) <| K.alloc rfl .plain ?_; refine kas rfl <| RunK.nil <| LWP.seq <| LWP.region (by kernel_rfl) <| kmv rfl <| K.callM [] (rd 1000000 l1 b1) (h1) rfl rfl (by exact (And.intro ⟨_, rfl, rfl⟩ trivial)) (by exact (all_cons_true (all_cons_true rfl (all_cons_true rfl rfl)) rfl)) rfl rfl rfl rfl (by exact (.box rfl rfl .nil)) .plain <| K.build rfl rfl (by exact rfl) (by exact nl6 rfl rfl rfl rfl rfl rfl rfl) .plain ?_; refine K.alloc rfl .plain ?_; refine K.storeAll rfl rfl rfl rfl rfl rfl .plain ?_; refine kas rfl <| RunK.nil <| LWP.seq <| LWP.region (by kernel_rfl) <| kfa rfl rfl ?_; refine kl1 rfl rfl rfl <| kca rfl rfl (rowOf_1 X) <| K.fieldAgg (m := 3) (l' := [.val (.bool false), .val (.bool false), .val (.bool true)]) rfl Tryz.underlying73 rfl (by kernel_rfl) rfl .plain ?_; refine K.alloc rfl .plain ?_; refine K.storeAll rfl rfl rfl rfl rfl rfl .plain ?_; refine RunK.nil <| LWP.seq <| LWP.seq <| LWP.region (by kernel_rfl) <| kfa rfl rfl ?_; refine kl1 rfl rfl rfl <| RunK.nil <| LWP.condF rfl ?_; refine LWP.skip ?_; refine LWP.seq <| LWP.seq <| LWP.region (by kernel_rfl) <| kfa rfl rfl ?_; refine kl1 rfl rfl rfl <| RunK.nil <| LWP.condF rfl ?_; refine LWP.skip ?_; refine LWP.seq <| LWP.seq <| LWP.region (by kernel_rfl) <| kfa rfl rfl ?_; refine kl1 rfl rfl rfl <| RunK.nil <| LWP.condT rfl ?_; refine LWP.region (by kernel_rfl) <| kmv rfl <| K.callM [] (rd 1000000 l2 b2) (h2) rfl rfl (by exact (And.intro ⟨_, rfl, rfl⟩ trivial)) (by exact (all_cons_true (all_cons_true rfl (all_cons_true rfl rfl)) rfl)) rfl rfl rfl rfl (by exact (.box rfl rfl .nil)) .plain <| kmv rfl <| kex rfl rfl <| kex rfl rfl <| kfa rfl rfl ?_; refine K.store rfl rfl rfl rfl (by kernel_rfl) (Nat.le_refl 6) rfl .plain <| kas rfl <| RunK.nil <| LWP.seq <| LWP.region (by kernel_rfl) <| K.loadAll rfl rfl rfl .plain ?_; refine kmv rfl <| K.storeAll rfl rfl rfl rfl rfl rfl .plain ?_; refine kas rfl <| RunK.nil <| LWP.ret ?_)
    exact ⟨[], ⟨[_, _], ⟨⟨_, _, rfl, rfl, rfl, .inl ⟨AggT.h, rfl⟩⟩, rfl, trivial⟩, rfl⟩, ⟨⟨_, rfl, rfl⟩, trivial⟩, rfl, rfl⟩
  rw [if_neg c1]
  by_cases c2 : c.toNat = 2
  · rw [if_pos c2]
    rw [c2] at h1
    have h1 : MSpec Tryz.prog X 45 [Lp 1000000] (rd 1000000 l b) (Ln .i64 2) (rd 1000000 l1 b1) := h1
    have h2 := eTake X l1 b1 (by omega)
    have g2 := (eS_less (l1, b1)).1
    rcases hy2 : eS (l1, b1) with ⟨ca, l2, b2⟩
    rw [hy2] at h2 g2
    simp only at h2 g2 ⊢
    have h3 := eTake X l2 b2 (by omega)
    rcases hy3 : eS (l2, b2) with ⟨cb, l3, b3⟩
    rw [hy3] at h3
    simp only at h3 ⊢
    refine MSpec.intro Tryz.func46 rfl (by kernel_rfl) rfl rfl rfl rfl rfl ?_
    intro C
    (refine LWP.seq <| LWP.region (by kernel_rfl) <| K.alloc rfl .plain ?_; refine kas rfl <| RunK.nil <| LWP.seq <| LWP.region (by kernel_rfl) <| kmv rfl <| K.callM [] (rd 1000000 l1 b1) (h1) rfl rfl (by exact (And.intro ⟨_, rfl, rfl⟩ trivial)) (by exact (all_cons_true (all_cons_true rfl (all_cons_true rfl rfl)) rfl)) rfl rfl rfl rfl (by exact (.box rfl rfl .nil)) .plain <| K.build rfl rfl (by exact rfl) (by exact nl6 rfl rfl rfl rfl rfl rfl rfl) .plain ?_; refine K.alloc rfl .plain ?_; refine K.storeAll rfl rfl rfl rfl rfl rfl .plain ?_; refine kas rfl <| RunK.nil <| LWP.seq <| LWP.region (by kernel_rfl) <| kfa rfl rfl ?_; refine kl1 rfl rfl rfl <| kca rfl rfl (rowOf_2 X) <| K.fieldAgg (m := 3) (l' := [.val (.bool true), .val (.bool true), .val (.bool false)]) rfl Tryz.underlying73 rfl (by kernel_rfl) rfl .plain ?_; refine K.alloc rfl .plain ?_; refine K.storeAll rfl rfl rfl rfl rfl rfl .plain ?_; refine RunK.nil <| LWP.seq <| LWP.seq <| LWP.region (by kernel_rfl) <| kfa rfl rfl ?_; refine kl1 rfl rfl rfl <| RunK.nil <| LWP.condT rfl ?_; refine LWP.region (by kernel_rfl) <| kmv rfl <| K.callM [] (rd 1000000 l2 b2) (h2) rfl rfl (by exact (And.intro ⟨_, rfl, rfl⟩ trivial)) (by exact (all_cons_true (all_cons_true rfl (all_cons_true rfl rfl)) rfl)) rfl rfl rfl rfl (by exact (.box rfl rfl .nil)) .plain <| kfa rfl rfl ?_; refine K.storeOne rfl rfl rfl rfl rfl (nl6 rfl rfl rfl rfl rfl rfl rfl) .plain <| RunK.nil <| LWP.seq <| LWP.seq <| LWP.region (by kernel_rfl) <| kfa rfl rfl ?_; refine kl1 rfl rfl rfl <| RunK.nil <| LWP.condT rfl ?_; refine LWP.region (by kernel_rfl) <| kmv rfl <| K.callM [] (rd 1000000 l3 b3) (h3) rfl rfl (by exact (And.intro ⟨_, rfl, rfl⟩ trivial)) (by exact (all_cons_true (all_cons_true rfl (all_cons_true rfl rfl)) rfl)) rfl rfl rfl rfl (by exact (.box rfl rfl .nil)) .plain <| kfa rfl rfl ?_; refine K.storeOne rfl rfl rfl rfl rfl (nl6 rfl rfl rfl rfl rfl rfl rfl) .plain <| RunK.nil <| LWP.seq <| LWP.seq <| LWP.region (by kernel_rfl) <| kfa rfl rfl ?_; refine kl1 rfl rfl rfl <| RunK.nil <| LWP.condF rfl ?_; refine LWP.skip ?_; refine LWP.seq <| LWP.region (by kernel_rfl) <| K.loadAll rfl rfl rfl .plain ?_; refine kmv rfl <| K.storeAll rfl rfl rfl rfl rfl rfl .plain ?_; refine kas rfl <| RunK.nil <| LWP.ret ?_)
    exact ⟨[], ⟨[_, _], ⟨⟨_, _, rfl, rfl, rfl, .inl ⟨AggT.h, rfl⟩⟩, rfl, trivial⟩, rfl⟩, ⟨⟨_, rfl, rfl⟩, trivial⟩, rfl, rfl⟩
  rw [if_neg c2]
  by_cases c3 : c.toNat = 3
  · rw [if_pos c3]
    rw [c3] at h1
    have h1 : MSpec Tryz.prog X 45 [Lp 1000000] (rd 1000000 l b) (Ln .i64 3) (rd 1000000 l1 b1) := h1
    have h2 := eTake X l1 b1 (by omega)
    rcases hy2 : eS (l1, b1) with ⟨ca, l2, b2⟩
    rw [hy2] at h2
    simp only at h2 ⊢
    refine MSpec.intro Tryz.func46 rfl (by kernel_rfl) rfl rfl rfl rfl rfl ?_
    intro C
    (refine LWP.seq <| LWP.region (by kernel_rfl) <| K.alloc rfl .plain ?_; refine kas rfl <| RunK.nil <| LWP.seq <| LWP.region (by kernel_rfl) <| kmv rfl <| K.callM [] (rd 1000000 l1 b1) (h1) rfl rfl (by exact (And.intro ⟨_, rfl, rfl⟩ trivial)) (by exact (all_cons_true (all_cons_true rfl (all_cons_true rfl rfl)) rfl)) rfl rfl rfl rfl (by exact (.box rfl rfl .nil)) .plain <| K.build rfl rfl (by exact rfl) (by exact nl6 rfl rfl rfl rfl rfl rfl rfl) .plain ?_; refine K.alloc rfl .plain ?_; refine K.storeAll rfl rfl rfl rfl rfl rfl .plain ?_; refine kas rfl <| RunK.nil <| LWP.seq <| LWP.region (by kernel_rfl) <| kfa rfl rfl ?_; refine kl1 rfl rfl rfl <| kca rfl rfl (rowOf_3 X) <| K.fieldAgg (m := 3) (l' := [.val (.bool true), .val (.bool false), .val (.bool false)]) rfl Tryz.underlying73 rfl (by kernel_rfl) rfl .plain ?_; refine K.alloc rfl .plain ?_; refine K.storeAll rfl rfl rfl rfl rfl rfl .plain ?_; refine RunK.nil <| LWP.seq <| LWP.seq <| LWP.region (by kernel_rfl) <| kfa rfl rfl ?_; refine kl1 rfl rfl rfl <| RunK.nil <| LWP.condT rfl ?_; refine LWP.region (by kernel_rfl) <| kmv rfl <| K.callM [] (rd 1000000 l2 b2) (h2) rfl rfl (by exact (And.intro ⟨_, rfl, rfl⟩ trivial)) (by exact (all_cons_true (all_cons_true rfl (all_cons_true rfl rfl)) rfl)) rfl rfl rfl rfl (by exact (.box rfl rfl .nil)) .plain <| kfa rfl rfl ?_; refine K.storeOne rfl rfl rfl rfl rfl (nl6 rfl rfl rfl rfl rfl rfl rfl) .plain <| RunK.nil <| LWP.seq <| LWP.seq <| LWP.region (by kernel_rfl) <| kfa rfl rfl ?_; refine kl1 rfl rfl rfl <| RunK.nil <| LWP.condF rfl ?_; refine LWP.skip ?_; refine LWP.seq <| LWP.seq <| LWP.region (by kernel_rfl) <| kfa rfl rfl ?_; refine kl1 rfl rfl rfl <| RunK.nil <| LWP.condF rfl ?_; refine LWP.skip ?_; refine LWP.seq <| LWP.region (by kernel_rfl) <| K.loadAll rfl rfl rfl .plain ?_; refine kmv rfl <| K.storeAll rfl rfl rfl rfl rfl rfl .plain ?_; refine kas rfl <| RunK.nil <| LWP.ret ?_)
    exact ⟨[], ⟨[_, _], ⟨⟨_, _, rfl, rfl, rfl, .inl ⟨AggT.h, rfl⟩⟩, rfl, trivial⟩, rfl⟩, ⟨⟨_, rfl, rfl⟩, trivial⟩, rfl, rfl⟩
  rw [if_neg c3]
  generalize hop : ((c.toNat : Nat) : Int) = op at *
  have hno := rowL_no (op := op) (by omega) (by omega) (by omega)
  by_cases c5 : 5 ≤ op ∧ op ≤ 17
  · have hR := rowOf_fn X op c5
    unfold LRow at hR
    rw [hno] at hR
    refine MSpec.intro Tryz.func46 rfl (by kernel_rfl) rfl rfl rfl rfl rfl ?_
    intro C
    (refine LWP.seq <| LWP.region (by kernel_rfl) <| K.alloc rfl .plain ?_; refine kas rfl <| RunK.nil <| LWP.seq <| LWP.region (by kernel_rfl) <| kmv rfl <| K.callM [] (rd 1000000 l1 b1) (h1) rfl rfl (by exact (And.intro ⟨_, rfl, rfl⟩ trivial)) (by exact (all_cons_true (all_cons_true rfl (all_cons_true rfl rfl)) rfl)) rfl rfl rfl rfl (by exact (.box rfl rfl .nil)) .plain <| K.build rfl rfl (by exact rfl) (by exact nl6 rfl rfl rfl rfl rfl rfl rfl) .plain ?_; refine K.alloc rfl .plain ?_; refine K.storeAll rfl rfl rfl rfl rfl rfl .plain ?_; refine kas rfl <| RunK.nil <| LWP.seq <| LWP.region (by kernel_rfl) <| kfa rfl rfl ?_; refine kl1 rfl rfl rfl <| K.callMp [(1000001, 600)] (.sv (.agg [.val (.string ⟨(wordS op).toArray⟩), .val (.int .i64 (takes op : Nat)), .val (.bool false), .val (.bool false), .val (.bool false), ptrF (cloF op) 600])) [dB 600 op] (hR) rfl rfl (by exact trivial) rfl rfl rfl rfl rfl (by exact (.box rfl rfl .nil)) .plain <| K.fieldAgg (m := 3) (l' := [.val (.bool false), .val (.bool false), .val (.bool false)]) rfl Tryz.underlying73 rfl (by kernel_rfl) rfl .plain ?_; refine K.alloc rfl .plain ?_; refine K.storeAll rfl rfl rfl rfl rfl rfl .plain ?_; refine RunK.nil <| LWP.seq <| LWP.seq <| LWP.region (by kernel_rfl) <| kfa rfl rfl ?_; refine kl1 rfl rfl rfl <| RunK.nil <| LWP.condF rfl ?_; refine LWP.skip ?_; refine LWP.seq <| LWP.seq <| LWP.region (by kernel_rfl) <| kfa rfl rfl ?_; refine kl1 rfl rfl rfl <| RunK.nil <| LWP.condF rfl ?_; refine LWP.skip ?_; refine LWP.seq <| LWP.seq <| LWP.region (by kernel_rfl) <| kfa rfl rfl ?_; refine kl1 rfl rfl rfl <| RunK.nil <| LWP.condF rfl ?_; refine LWP.skip ?_; refine LWP.seq <| LWP.region (by kernel_rfl) <| K.loadAll rfl rfl rfl .plain ?_; refine kmv rfl <| K.storeAll rfl rfl rfl rfl rfl rfl .plain ?_; refine kas rfl <| RunK.nil <| LWP.ret ?_)
    exact ⟨[], ⟨[_, _], ⟨⟨_, _, rfl, rfl, rfl, .inl ⟨AggT.h, rfl⟩⟩, rfl, trivial⟩, rfl⟩, ⟨⟨_, rfl, rfl⟩, trivial⟩, rfl, rfl⟩
  · have hR := rowOf_leaf X op (by omega)
    generalize leafV op = v at *
    unfold LRow at hR
    rw [hno] at hR
    refine MSpec.intro Tryz.func46 rfl (by kernel_rfl) rfl rfl rfl rfl rfl ?_
    intro C
    (refine LWP.seq <| LWP.region (by kernel_rfl) <| K.alloc rfl .plain ?_; refine kas rfl <| RunK.nil <| LWP.seq <| LWP.region (by kernel_rfl) <| kmv rfl <| K.callM [] (rd 1000000 l1 b1) (h1) rfl rfl (by exact (And.intro ⟨_, rfl, rfl⟩ trivial)) (by exact (all_cons_true (all_cons_true rfl (all_cons_true rfl rfl)) rfl)) rfl rfl rfl rfl (by exact (.box rfl rfl .nil)) .plain <| K.build rfl rfl (by exact rfl) (by exact nl6 rfl rfl rfl rfl rfl rfl rfl) .plain ?_; refine K.alloc rfl .plain ?_; refine K.storeAll rfl rfl rfl rfl rfl rfl .plain ?_; refine kas rfl <| RunK.nil <| LWP.seq <| LWP.region (by kernel_rfl) <| kfa rfl rfl ?_; refine kl1 rfl rfl rfl <| kca rfl rfl hR <| K.fieldAgg (m := 3) (l' := [.val (.bool false), .val (.bool false), .val (.bool false)]) rfl Tryz.underlying73 rfl (by kernel_rfl) rfl .plain ?_; refine K.alloc rfl .plain ?_; refine K.storeAll rfl rfl rfl rfl rfl rfl .plain ?_; refine RunK.nil <| LWP.seq <| LWP.seq <| LWP.region (by kernel_rfl) <| kfa rfl rfl ?_; refine kl1 rfl rfl rfl <| RunK.nil <| LWP.condF rfl ?_; refine LWP.skip ?_; refine LWP.seq <| LWP.seq <| LWP.region (by kernel_rfl) <| kfa rfl rfl ?_; refine kl1 rfl rfl rfl <| RunK.nil <| LWP.condF rfl ?_; refine LWP.skip ?_; refine LWP.seq <| LWP.seq <| LWP.region (by kernel_rfl) <| kfa rfl rfl ?_; refine kl1 rfl rfl rfl <| RunK.nil <| LWP.condF rfl ?_; refine LWP.skip ?_; refine LWP.seq <| LWP.region (by kernel_rfl) <| K.loadAll rfl rfl rfl .plain ?_; refine kmv rfl <| K.storeAll rfl rfl rfl rfl rfl rfl .plain ?_; refine kas rfl <| RunK.nil <| LWP.ret ?_)
    exact ⟨[], ⟨[_, _], ⟨⟨_, _, rfl, rfl, rfl, .inl ⟨AggT.h, rfl⟩⟩, rfl, trivial⟩, rfl⟩, ⟨⟨_, rfl, rfl⟩, trivial⟩, rfl, rfl⟩
def zeI (k : Nat) : List Value := (List.replicate k [Value.int .i64 0, .int .i64 0, .int .i64 0, .bool false, .int .u64 0, .int .u64 0]).flatten
theorem zeI_succ (k : Nat) : zeI (k + 1) = [Value.int .i64 0, .int .i64 0, .int .i64 0, .bool false, .int .u64 0, .int .u64 0] ++ zeI k := by unfold zeI; rw [List.replicate_succ, List.flatten_cons]
theorem zeI_len (k : Nat) : (zeI k).length = k * 6 := by
  induction k with
  | zero => rfl
  | succ k ih => rw [zeI_succ, List.length_append, ih]; simp; omega
theorem inssV_snoc2 (q : List Ins) (x : Ins) : inssV (q ++ [x]) = inssV q ++ insV x := by unfold inssV; rw [List.map_append, List.flatten_append]; simp
def gdR (s : List UInt8) : LV := match decX s with | some l => .tup [.one (.slc 1000001 0 l.length 6), Sn .i64 0] | none => .tup [Vnil, Sn .i64 4]
def gdBx (s : List UInt8) : List (Nat × Option Box) := match decX s with | some l => [(1000001, some ⟨44, (inssV l).map .val, true⟩)] | none => []
theorem gd_none {s : List UInt8} (h : decX s = none) : gdR s = .tup [Vnil, Sn .i64 4] ∧ gdBx s = [] := by unfold gdR gdBx; rw [h]; exact ⟨rfl, rfl⟩
theorem gd_some {s : List UInt8} {l : List Ins} (h : decX s = some l) : gdR s = .tup [.one (.slc 1000001 0 l.length 6), Sn .i64 0] ∧ gdBx s = [(1000001, some ⟨44, (inssV l).map .val, true⟩)] := by unfold gdR gdBx; rw [h]; exact ⟨rfl, rfl⟩
theorem gdBx_use (s : List UInt8) : ((gdBx s).all fun p => match p.2 with | some b => b.cells.all (CV.inUse (gdBx s)) | none => true) = true := by
  cases h : decX s with
  | none => rw [(gd_none h).2]; rfl
  | some l => rw [(gd_some h).2]; simp only [List.all_cons, List.all_nil, vals_use, Bool.and_true]
theorem gdR_use (s : List UInt8) : LV.inUse (gdBx s) (gdR s) = true := by
  cases h : decX s with
  | none => rw [(gd_none h).1, (gd_none h).2]; rfl
  | some l => rw [(gd_some h).1, (gd_some h).2]; rfl
abbrev deSt (m i : Nat) (l : List UInt8) (b : Bool) (cells : List Value) (Y : Nat → Option Obj) : St :=
  ⟨[(4, Lp 700), (5, .sv (.one (.slc 600 0 m 6))), (15, Ln .i64 (m : Nat)), (16, Ln .i64 (i : Nat))], rd 700 l b ++ [(600, some ⟨44, cells.map .val, false⟩)], Y⟩
set_option maxHeartbeats 6400000 in
theorem gDecodeM (s : List UInt8) (hs : s.length ≤ 4096) : MSpec Tryz.prog X 20 [Ls s] [] (gdR s) (gdBx s) := by
  have hD := decX_e s
  have h1 := eTake X s false (by omega)
  have g1 := (eS_less (s, false)).1
  rcases hy1 : eS (s, false) with ⟨c, l1, b1⟩
  rw [hy1] at h1 g1 hD
  simp only at h1 g1 hD
  have hc := c.toNat_lt
  generalize c.toNat = m at *
  refine MSpec.intro Tryz.func20 rfl (by kernel_rfl) rfl (gdR_use s) (gdBx_use s) rfl rfl ?_
  intro C
  have hmk : slcBuild Tryz.prog 22 m = some (zeI m, 6, 44) := slcBuild_many (z := #[.int .i64 0, .int .i64 0, .int .i64 0, .bool false, .int .u64 0, .int .u64 0]) (by kernel_rfl) (by kernel_rfl) rfl (by omega)
  have hR := Read_spec X s
  (refine LWP.seq <| LWP.region (by kernel_rfl) <| kas rfl <| kas rfl <| RunK.nil <| LWP.seq <| LWP.region (by kernel_rfl) <| kmv rfl <| K.callMp [(1000001, 700)] (Lp 700) (rd 700 s false) (hR) rfl rfl (by exact trivial) rfl rfl rfl rfl rfl (by exact (.box rfl rfl .nil)) .plain <| kas rfl <| RunK.nil <| LWP.seq <| LWP.region (by kernel_rfl) <| kmv rfl ?_; refine K.callM [(1000000, 700)] (rd 700 l1 b1) (h1) rfl rfl (by exact (And.intro ⟨_, rfl, rfl⟩ trivial)) (by exact (all_cons_true (all_cons_true rfl (all_cons_true rfl rfl)) rfl)) rfl rfl rfl rfl (by exact (.box rfl rfl .nil)) .plain <| K.makeSlc (m := m) (bytes := 48) rfl rfl hmk (by kernel_rfl) (by omega) rfl rfl .plain <| kas rfl <| RunK.nil <| LWP.seq <| LWP.seq <| LWP.region (by kernel_rfl) <| kmv rfl <| K.lenSlc rfl SliceT.h rfl .plain ?_; refine kmv rfl <| RunK.nil <| LWP.block ?_)
  refine LWP.loop (fun k σ => ∃ (i : Nat) (q : List Ins) (l : List UInt8) (b : Bool), i ≤ m ∧ k = m - i ∧ eIs (l1, b1) i = some (q, l, b) ∧ σ = deSt m i l b (inssV q ++ zeI (m - i)) X) m
    ⟨deSt m 0 l1 b1 (inssV [] ++ zeI (m - 0)) X, Le.ofR [(700, 700), (600, 13)] (by exact ⟨rfl, rfl, rfl, rfl, trivial⟩) (by repeat' (first | exact trivial | refine And.intro ⟨_, rfl, ?_⟩ ?_ | refine And.intro ⟨_, rfl⟩ ?_ | rfl | exact Box.ren_bytes _ _ _ _ | exact Box.ren_vals _ _ _ _ | exact Box.ren_mid rfl)) (by exact rfl) (by exact rfl) (by repeat' (first | refine all_cons_true ?_ ?_ | rfl | exact bytes_inUse | exact vals_inUse | exact mid_inUse rfl)) (by exact rfl) (by exact rfl), 0, [], l1, b1, Nat.zero_le _, rfl, rfl, rfl⟩ ?_
  rintro k σ ⟨i, q, l, b, hi, rfl, hq, rfl⟩
  obtain ⟨hqn, ⟨hll, _⟩, hqs⟩ := eIs_len hq
  simp only at hll
  by_cases hlt : i < m
  · have hT := eTakeIns X l b (by omega)
    have hnx : eIs (l1, b1) (i + 1) = if (eI (l, b)).1.2 = true then some (q ++ [(eI (l, b)).1.1], (eI (l, b)).2) else none := by simp only [eIs, hq]
    rcases hy : eI (l, b) with ⟨⟨x, is⟩, l2, b2⟩
    rw [hy] at hT hnx
    simp only at hT hnx
    cases is with
    | false =>
      rw [if_neg (by decide)] at hnx
      have := eIs_none hnx (m - (i + 1))
      rw [show i + 1 + (m - (i + 1)) = m by omega] at this
      rw [this] at hD
      obtain ⟨q1, q2⟩ := gd_none hD
      rw [q1, q2]
      (refine LWP.seq <| LWP.region (by kernel_rfl) <| klt rfl rfl (decide_eq_true (by omega)) <| RunK.nil <| LWP.seq <| LWP.condT rfl ?_; refine LWP.skip ?_; refine LWP.seq <| LWP.block <| LWP.seq <| LWP.region (by kernel_rfl) <| kmv rfl <| kas rfl <| RunK.nil <| LWP.seq <| LWP.region (by kernel_rfl) <| kmv rfl <| K.callM [(1000000, 700)] (rd 700 l2 b2) (hT) rfl rfl (by exact (And.intro ⟨_, rfl, rfl⟩ trivial)) (by exact (all_cons_true (all_cons_true rfl (all_cons_true rfl rfl)) rfl)) rfl rfl rfl rfl (by exact (.box rfl rfl .nil)) .plain <| kmv rfl <| kex rfl rfl <| kex rfl rfl ?_; refine K.alloc rfl .plain ?_; refine K.storeAll rfl rfl rfl rfl rfl rfl .plain ?_; refine kas rfl <| RunK.nil <| LWP.seq <| LWP.seq <| LWP.region (by kernel_rfl) <| kmv rfl <| K.not rfl rfl .plain <| RunK.nil <| LWP.condT rfl ?_; refine LWP.seq <| LWP.region (by kernel_rfl) <| kas rfl <| kas rfl <| RunK.nil <| LWP.ret ?_)
      exact ⟨[], ⟨[_, _], ⟨rfl, rfl, trivial⟩, rfl⟩, trivial, rfl, rfl⟩
    | true =>
      rw [if_pos rfl] at hnx
      have hix : 0 + Int.toNat (i : Int) * 6 = i * 6 := by rw [Int.toNat_natCast]; omega
      have hpl : (inssV q).length = i * 6 := by have := inssV_len q; rw [List.length_map] at this; rw [this, hqn]
      have hroom : i * 6 + 6 ≤ ((inssV q ++ zeI (m - i)).map CV.val).length := by rw [List.length_map, List.length_append, hpl, zeI_len]; omega
      have hspl : splice ((inssV q ++ zeI (m - i)).map CV.val) (i * 6) ((insV x).map CV.val) = (inssV (q ++ [x]) ++ zeI (m - (i + 1))).map CV.val := by
        rw [inssV_snoc2, show m - i = (m - (i + 1)) + 1 by omega, zeI_succ]
        unfold splice
        simp only [List.map_append, List.append_assoc]
        have hml : ((inssV q).map CV.val).length = i * 6 := by rw [List.length_map, hpl]
        generalize (inssV q).map CV.val = R at *
        rw [← hml, List.take_left, List.drop_length_add_append]
        simp [insV]
      have hinc : IntKind.i64.wrap (((i : Nat) : Int) + 1) = ((i + 1 : Nat) : Int) := by rw [wrap_i64 (by omega)]; omega
      (refine LWP.seq <| LWP.region (by kernel_rfl) <| klt rfl rfl (decide_eq_true (by omega)) <| RunK.nil <| LWP.seq <| LWP.condT rfl ?_; refine LWP.skip ?_; refine LWP.seq <| LWP.block <| LWP.seq <| LWP.region (by kernel_rfl) <| kmv rfl <| kas rfl <| RunK.nil <| LWP.seq <| LWP.region (by kernel_rfl) <| kmv rfl <| K.callM [(1000000, 700)] (rd 700 l2 b2) (hT) rfl rfl (by exact (And.intro ⟨_, rfl, rfl⟩ trivial)) (by exact (all_cons_true (all_cons_true rfl (all_cons_true rfl rfl)) rfl)) rfl rfl rfl rfl (by exact (.box rfl rfl .nil)) .plain <| kmv rfl <| kex rfl rfl <| kex rfl rfl ?_; refine K.alloc rfl .plain ?_; refine K.storeAll rfl rfl rfl rfl rfl rfl .plain ?_; refine kas rfl <| RunK.nil <| LWP.seq <| LWP.seq <| LWP.region (by kernel_rfl) <| kmv rfl <| K.not rfl rfl .plain <| RunK.nil <| LWP.condF rfl ?_; refine LWP.skip ?_; refine LWP.region (by kernel_rfl) <| kmv rfl <| kmv rfl <| K.loadAll rfl rfl rfl .plain ?_; refine K.indexSlc rfl rfl (by omega) hix .plain ?_; refine K.store rfl rfl rfl rfl (by kernel_rfl) hroom hspl .plain <| RunK.nil <| LWP.region (by kernel_rfl) <| kad rfl rfl hinc <| kmv rfl <| RunK.nil ?_)
      exact ⟨m - (i + 1), deSt m (i + 1) l2 b2 (inssV (q ++ [x]) ++ zeI (m - (i + 1))) X, by omega, Le.of (by exact ⟨rfl, rfl, rfl, rfl, trivial⟩) (by exact ⟨rfl, rfl, trivial⟩) (by exact rfl) (by exact rfl) (by repeat' (first | refine all_cons_true ?_ ?_ | rfl | exact bytes_inUse | exact vals_inUse | exact mid_inUse rfl)), i + 1, q ++ [x], l2, b2, by omega, rfl, hnx, rfl⟩
  · have e : i = m := by omega
    subst e
    rw [hq] at hD
    simp only at hD
    have hz : zeI (i - i) = [] := by rw [Nat.sub_self]; rfl
    rw [hz, List.append_nil]
    rw [← hqn] at *
    clear hqn
    (refine LWP.seq <| LWP.region (by kernel_rfl) <| klt rfl rfl (decide_eq_false (by omega)) <| RunK.nil <| LWP.seq <| LWP.condF rfl ?_; refine LWP.exit <| LWP.seq <| LWP.seq ?_)
    refine LWP.le (σ' := ⟨[(5, .sv (.one (.slc 600 0 q.length 6))), (4, Lp 700)], (600, some ⟨44, (inssV q).map .val, false⟩) :: rd 700 l b, X⟩) (Le.of (by exact ⟨rfl, rfl, trivial⟩) (by exact ⟨rfl, rfl, trivial⟩) (by exact rfl) (by exact rfl) (by repeat' (first | refine all_cons_true ?_ ?_ | rfl | exact bytes_inUse | exact vals_inUse | exact mid_inUse rfl))) ?_
    refine LWP.freeze rfl rfl rfl fun sb scap sarr sfr hn hFz hcp hfit hsp => ?_
    have hin : InsIn (withBlock X sb (.cells sarr 44 sfr)) (some ⟨sb, 0, none⟩) q := ⟨rows_in (withBlock_at _ _ _) (fun r hr => by obtain ⟨x, _, rfl⟩ := List.mem_map.1 hr; rfl) hsp, hqs⟩
    have hC := gCheck' _ q (some ⟨sb, 0, none⟩) scap hin (by omega)
    have hDn := Done_spec (withBlock X sb (.cells sarr 44 sfr)) l b _ rfl
    by_cases hd : (!b && (l == [])) = true
    · rw [hd] at hDn
      by_cases hk : chkX q = 0
      · rw [if_pos ⟨hd, hk⟩] at hD
        obtain ⟨q1, q2⟩ := gd_some hD
        rw [q1, q2]
        rw [hk] at hC
        (refine LWP.region (by kernel_rfl) <| kmv rfl <| K.callM [(1000000, 700)] (rd 700 l b) (hDn) rfl rfl (by exact (And.intro ⟨_, rfl, rfl⟩ trivial)) (by exact (all_cons_true (all_cons_true rfl (all_cons_true rfl rfl)) rfl)) rfl rfl rfl rfl (by exact (.box rfl rfl .nil)) .plain <| K.not rfl rfl .plain <| kmv rfl <| gmv rfl rfl rfl <| gca rfl rfl hC rfl rfl <| K.neq rfl rfl (r := false) rfl (.taken rfl rfl) ?_; refine kpf rfl rfl <| RunK.nil <| LWP.condF rfl ?_; refine LWP.skip ?_; refine LWP.seq ?_)
        refine LWP.le (σ' := ⟨[(5, .sv (.one (.val (.slice (some ⟨sb, 0, none⟩) q.length scap))))], [], withBlock X sb (.cells sarr 44 sfr)⟩) (Le.of (by exact ⟨rfl, trivial⟩) (by exact trivial) (by exact rfl) (by exact rfl) (by repeat' (first | refine all_cons_true ?_ ?_ | rfl | exact bytes_inUse | exact vals_inUse | exact mid_inUse rfl))) ?_
        refine LWP.thaw (k := 600) (sz := 6) (vals := inssV q) hn hFz hcp hfit hsp rfl rfl rfl (by decide) ?_
        (refine LWP.region (by kernel_rfl) <| kmv rfl <| kas rfl <| kas rfl <| RunK.nil <| LWP.ret ?_)
        exact ⟨[(1000001, 600)], ⟨[_, _], ⟨rfl, rfl, trivial⟩, rfl⟩, (by repeat' (first | exact trivial | refine And.intro ⟨_, rfl, ?_⟩ ?_ | refine And.intro ⟨_, rfl⟩ ?_ | rfl | exact Box.ren_bytes _ _ _ _ | exact Box.ren_vals _ _ _ _ | exact Box.ren_mid rfl)), rfl, rfl⟩
      · rw [if_neg (fun h => hk h.2)] at hD
        obtain ⟨q1, q2⟩ := gd_none hD
        rw [q1, q2]
        (refine LWP.region (by kernel_rfl) <| kmv rfl <| K.callM [(1000000, 700)] (rd 700 l b) (hDn) rfl rfl (by exact (And.intro ⟨_, rfl, rfl⟩ trivial)) (by exact (all_cons_true (all_cons_true rfl (all_cons_true rfl rfl)) rfl)) rfl rfl rfl rfl (by exact (.box rfl rfl .nil)) .plain <| K.not rfl rfl .plain <| kmv rfl <| gmv rfl rfl rfl <| gca rfl rfl hC rfl rfl <| K.neq rfl rfl (r := true) (bne_iff_ne.2 hk) (.taken rfl rfl) ?_; refine kpf rfl rfl <| RunK.nil <| LWP.condT rfl ?_; refine LWP.seq <| LWP.region (by kernel_rfl) <| kas rfl <| kas rfl <| RunK.nil <| LWP.ret ?_)
        exact ⟨[], ⟨[_, _], ⟨rfl, rfl, trivial⟩, rfl⟩, trivial, rfl, rfl⟩
    · rw [if_neg (fun h => hd h.1)] at hD
      obtain ⟨q1, q2⟩ := gd_none hD
      rw [q1, q2]
      rw [Bool.not_eq_true] at hd
      rw [hd] at hDn
      (refine LWP.region (by kernel_rfl) <| kmv rfl <| K.callM [(1000000, 700)] (rd 700 l b) (hDn) rfl rfl (by exact (And.intro ⟨_, rfl, rfl⟩ trivial)) (by exact (all_cons_true (all_cons_true rfl (all_cons_true rfl rfl)) rfl)) rfl rfl rfl rfl (by exact (.box rfl rfl .nil)) .plain <| K.not rfl rfl .plain <| kmv rfl <| RunK.passed rfl rfl rfl <| RunK.passed rfl rfl rfl <| RunK.passed rfl rfl rfl <| kpt rfl rfl <| RunK.nil <| LWP.condT rfl ?_; refine LWP.seq <| LWP.region (by kernel_rfl) <| kas rfl <| kas rfl <| RunK.nil <| LWP.ret ?_)
      exact ⟨[], ⟨[_, _], ⟨rfl, rfl, trivial⟩, rfl⟩, trivial, rfl, rfl⟩
end Go.Proofs.YtimpjdbhalnofaaGreatDoor
end
section
namespace Go.Proofs.YtimpjdbhalnofaaGreatDoor
open Go Go.Lg Go.Lg.Fml Go.Lg.Fld Go.Lg.Arith
set_option maxRecDepth 100000
variable (X : Nat → Option Obj)
abbrev usSt (ad : Option Addr) (n cap i : Nat) (q : List Ins) (r : Bool) (Y : Nat → Option Obj) : St :=
  ⟨[(0, Lx ad n cap), (3, .sv (.one (.slc 500 0 q.length 6))), (7, Lx ad n cap), (8, Ln .i64 (n : Nat)), (9, Ln .i64 (i : Nat))], [(500, some ⟨44, (inssV q).map .val, r⟩)], Y⟩
theorem uses_take {l : List Ins} {i : Nat} {x : Ins} (hx : l[i]? = some x) : usesX (l.take (i + 1)) = if (x.op == 2 || x.op == 3) = true then usesX (l.take i) ++ [x] else usesX (l.take i) := by
  unfold usesX
  rw [List.take_add_one, hx, List.filter_append]
  simp only [Option.toList_some, List.filter_cons, List.filter_nil]
  split <;> simp
theorem uses_le (l : List Ins) : (usesX l).length ≤ l.length := List.length_filter_le _ _
set_option maxHeartbeats 6400000 in
theorem gUses' (l : List Ins) (ad : Option Addr) (cap : Nat) (hin : InsIn X ad l) (hl : l.length ≤ 1000) : MSpec Tryz.prog X 17 [Lx ad l.length cap] [] (.sv (.one (.slc 1000001 0 (usesX l).length 6))) [(1000001, some ⟨44, (inssV (usesX l)).map .val, true⟩)] := by
  refine MSpec.intro Tryz.func17 rfl (by kernel_rfl) rfl (by exact (by repeat' (first | refine all_cons_true ?_ ?_ | rfl | exact bytes_inUse | exact vals_inUse | exact mid_inUse rfl))) (by exact (by repeat' (first | refine all_cons_true ?_ ?_ | rfl | exact bytes_inUse | exact vals_inUse | exact mid_inUse rfl))) rfl rfl ?_
  intro C
  refine LWP.ends ?_
  (refine LWP.seq <| LWP.region (by kernel_rfl) <| kas rfl <| RunK.nil <| LWP.seq <| LWP.region (by kernel_rfl) <| K.buildSlc (zs := []) (sz := 6) (e := 44) (by kernel_rfl) rfl rfl rfl rfl rfl rfl .plain <| kas rfl <| RunK.nil <| LWP.seq <| LWP.seq <| LWP.region (by kernel_rfl) <| kmv rfl <| K.lenX rfl SliceT.h rfl .plain ?_; refine kmv rfl <| RunK.nil <| LWP.block ?_)
  refine LWP.loop (fun m σ => ∃ (i : Nat) (r : Bool), i ≤ l.length ∧ m = l.length - i ∧ σ = usSt ad l.length cap i (usesX (l.take i)) r X) l.length
    ⟨usSt ad l.length cap 0 (usesX (l.take 0)) false X, Le.ofR [(500, 6)] (by exact ⟨rfl, rfl, rfl, rfl, rfl, trivial⟩) (by repeat' (first | exact trivial | refine And.intro ⟨_, rfl, ?_⟩ ?_ | refine And.intro ⟨_, rfl⟩ ?_ | rfl | exact Box.ren_bytes _ _ _ _ | exact Box.ren_vals _ _ _ _ | exact Box.ren_mid rfl)) (by exact rfl) (by exact rfl) (by repeat' (first | refine all_cons_true ?_ ?_ | rfl | exact bytes_inUse | exact vals_inUse | exact mid_inUse rfl)) (by exact rfl) (by exact rfl), 0, false, by omega, by omega, rfl⟩ ?_
  rintro m σ ⟨i, r, hi, rfl, rfl⟩
  by_cases hlt : i < l.length
  · obtain ⟨x, hx⟩ : ∃ x, l[i]? = some x := ⟨_, List.getElem?_eq_getElem hlt⟩
    obtain ⟨blk, off, arr, el, fr, rfl, hX, hsz, hcs, hop⟩ := hin.at hx
    have hio : off + Int.toNat (i : Int) * 6 = off + i * 6 := by simp
    have hin0 : 0 ≤ (i : Int) ∧ (i : Int) < (l.length : Nat) := by omega
    have hut := uses_take hx
    have hul := uses_le (l.take i)
    rw [List.length_take] at hul
    have hinc : IntKind.i64.wrap (((i : Nat) : Int) + 1) = ((i + 1 : Nat) : Int) := by rw [wrap_i64 (by omega)]; omega
    by_cases h2 : x.op = 2
    · rw [if_pos (by rw [beq_iff_eq.2 h2]; rfl)] at hut
      generalize usesX (l.take i) = q at *
      have hcl := inssV_len q
      have hnc : (inssV q).map CV.val ++ (insV x).map CV.val = (inssV (q ++ [x])).map CV.val := inssV_snoc q x rfl
      have hnl : q.length + 1 = (q ++ [x]).length := by rw [List.length_append]; rfl
      (refine LWP.seq <| LWP.region (by kernel_rfl) <| klt rfl rfl (decide_eq_true (by omega)) <| RunK.nil <| LWP.seq <| LWP.condT rfl ?_; refine LWP.skip ?_; refine LWP.seq <| LWP.block <| LWP.seq <| LWP.region (by kernel_rfl) <| K.indexX rfl rfl SliceT.h hin0 hio .plain <| K.loadXagg rfl hX (by kernel_rfl) hsz hcs .plain <| K.alloc rfl .plain ?_; refine K.storeAll rfl rfl rfl rfl rfl rfl .plain ?_; refine RunK.nil <| LWP.seq <| LWP.region (by kernel_rfl) <| kfa rfl rfl ?_; refine kl1 rfl rfl rfl <| keq rfl rfl (r := true) (beq_iff_eq.2 h2) <| kmv rfl <| RunK.passed rfl rfl rfl <| RunK.passed rfl rfl rfl <| RunK.passed rfl rfl rfl <| kpt rfl rfl <| RunK.nil <| LWP.condT rfl ?_; refine LWP.region (by kernel_rfl) <| kmv rfl <| K.loadAll rfl rfl rfl .plain ?_; refine K.buildSlc (zs := [Value.int .i64 0, .int .i64 0, .int .i64 0, .bool false, .int .u64 0, .int .u64 0]) (sz := 6) (e := 44) (cs' := (insV x).map .val) (by kernel_rfl) rfl rfl rfl rfl rfl rfl .plain <| K.appendSlc (by_ := 48) (e2 := 44) (l2 := (insV x).map .val) (nl := (q ++ [x]).length) (nc := (inssV (q ++ [x])).map .val) rfl rfl hcl rfl rfl (Nat.le_refl _) rfl rfl (by kernel_rfl) (by kernel_rfl) (by omega) (by omega) rfl hnl hnc .plain <| kas rfl <| RunK.nil <| LWP.region (by kernel_rfl) <| kad rfl rfl hinc <| kmv rfl <| RunK.nil ?_)
      exact ⟨_, usSt (some ⟨blk, off, none⟩) l.length cap (i + 1) (q ++ [x]) true X, by omega, Le.ofR [(500, 24)] (by exact ⟨rfl, rfl, rfl, rfl, rfl, trivial⟩) (by repeat' (first | exact trivial | refine And.intro ⟨_, rfl, ?_⟩ ?_ | refine And.intro ⟨_, rfl⟩ ?_ | rfl | exact Box.ren_bytes _ _ _ _ | exact Box.ren_vals _ _ _ _ | exact Box.ren_mid rfl)) (by exact rfl) (by exact rfl) (by repeat' (first | refine all_cons_true ?_ ?_ | rfl | exact bytes_inUse | exact vals_inUse | exact mid_inUse rfl)) (by exact rfl) (by exact rfl), i + 1, true, by omega, rfl, by rw [hut]⟩
    · by_cases h3 : x.op = 3
      · rw [if_pos (by rw [beq_iff_eq.2 h3, Bool.or_true])] at hut
        generalize usesX (l.take i) = q at *
        have hcl := inssV_len q
        have hnc : (inssV q).map CV.val ++ (insV x).map CV.val = (inssV (q ++ [x])).map CV.val := inssV_snoc q x rfl
        have hnl : q.length + 1 = (q ++ [x]).length := by rw [List.length_append]; rfl
        (refine LWP.seq <| LWP.region (by kernel_rfl) <| klt rfl rfl (decide_eq_true (by omega)) <| RunK.nil <| LWP.seq <| LWP.condT rfl ?_; refine LWP.skip ?_; refine LWP.seq <| LWP.block <| LWP.seq <| LWP.region (by kernel_rfl) <| K.indexX rfl rfl SliceT.h hin0 hio .plain <| K.loadXagg rfl hX (by kernel_rfl) hsz hcs .plain <| K.alloc rfl .plain ?_; refine K.storeAll rfl rfl rfl rfl rfl rfl .plain ?_; refine RunK.nil <| LWP.seq <| LWP.region (by kernel_rfl) <| kfa rfl rfl ?_; refine kl1 rfl rfl rfl <| keq rfl rfl (r := false) (beq_eq_false_iff_ne.2 h2) <| kmv rfl <| K.fieldAddr rfl rfl (.taken rfl rfl) ?_; refine K.loadOne rfl rfl rfl (.taken rfl rfl) ?_; refine K.eql rfl rfl (r := true) (beq_iff_eq.2 h3) (.taken rfl rfl) ?_; refine kpf rfl rfl <| RunK.nil <| LWP.condT rfl ?_; refine LWP.region (by kernel_rfl) <| kmv rfl <| K.loadAll rfl rfl rfl .plain ?_; refine K.buildSlc (zs := [Value.int .i64 0, .int .i64 0, .int .i64 0, .bool false, .int .u64 0, .int .u64 0]) (sz := 6) (e := 44) (cs' := (insV x).map .val) (by kernel_rfl) rfl rfl rfl rfl rfl rfl .plain <| K.appendSlc (by_ := 48) (e2 := 44) (l2 := (insV x).map .val) (nl := (q ++ [x]).length) (nc := (inssV (q ++ [x])).map .val) rfl rfl hcl rfl rfl (Nat.le_refl _) rfl rfl (by kernel_rfl) (by kernel_rfl) (by omega) (by omega) rfl hnl hnc .plain <| kas rfl <| RunK.nil <| LWP.region (by kernel_rfl) <| kad rfl rfl hinc <| kmv rfl <| RunK.nil ?_)
        exact ⟨_, usSt (some ⟨blk, off, none⟩) l.length cap (i + 1) (q ++ [x]) true X, by omega, Le.ofR [(500, 24)] (by exact ⟨rfl, rfl, rfl, rfl, rfl, trivial⟩) (by repeat' (first | exact trivial | refine And.intro ⟨_, rfl, ?_⟩ ?_ | refine And.intro ⟨_, rfl⟩ ?_ | rfl | exact Box.ren_bytes _ _ _ _ | exact Box.ren_vals _ _ _ _ | exact Box.ren_mid rfl)) (by exact rfl) (by exact rfl) (by repeat' (first | refine all_cons_true ?_ ?_ | rfl | exact bytes_inUse | exact vals_inUse | exact mid_inUse rfl)) (by exact rfl) (by exact rfl), i + 1, true, by omega, rfl, by rw [hut]⟩
      · rw [if_neg (by rw [beq_eq_false_iff_ne.2 h2, beq_eq_false_iff_ne.2 h3]; decide)] at hut
        generalize usesX (l.take i) = q at *
        (refine LWP.seq <| LWP.region (by kernel_rfl) <| klt rfl rfl (decide_eq_true (by omega)) <| RunK.nil <| LWP.seq <| LWP.condT rfl ?_; refine LWP.skip ?_; refine LWP.seq <| LWP.block <| LWP.seq <| LWP.region (by kernel_rfl) <| K.indexX rfl rfl SliceT.h hin0 hio .plain <| K.loadXagg rfl hX (by kernel_rfl) hsz hcs .plain <| K.alloc rfl .plain ?_; refine K.storeAll rfl rfl rfl rfl rfl rfl .plain ?_; refine RunK.nil <| LWP.seq <| LWP.region (by kernel_rfl) <| kfa rfl rfl ?_; refine kl1 rfl rfl rfl <| keq rfl rfl (r := false) (beq_eq_false_iff_ne.2 h2) <| kmv rfl <| K.fieldAddr rfl rfl (.taken rfl rfl) ?_; refine K.loadOne rfl rfl rfl (.taken rfl rfl) ?_; refine K.eql rfl rfl (r := false) (beq_eq_false_iff_ne.2 h3) (.taken rfl rfl) ?_; refine kpf rfl rfl <| RunK.nil <| LWP.condF rfl ?_; refine LWP.skip ?_; refine LWP.region (by kernel_rfl) <| kad rfl rfl hinc <| kmv rfl <| RunK.nil ?_)
        exact ⟨_, usSt (some ⟨blk, off, none⟩) l.length cap (i + 1) q r X, by omega, Le.of (by exact ⟨rfl, rfl, rfl, rfl, rfl, trivial⟩) (by exact ⟨rfl, trivial⟩) (by exact rfl) (by exact rfl) (by repeat' (first | refine all_cons_true ?_ ?_ | rfl | exact bytes_inUse | exact vals_inUse | exact mid_inUse rfl)), i + 1, r, by omega, rfl, by rw [hut]⟩
  · have e : i = l.length := by omega
    subst e
    rw [List.take_length]
    (refine LWP.seq <| LWP.region (by kernel_rfl) <| klt rfl rfl (decide_eq_false (by omega)) <| RunK.nil <| LWP.seq <| LWP.condF rfl ?_; refine LWP.exit <| LWP.seq <| LWP.region (by kernel_rfl) <| kmv rfl <| kas rfl <| RunK.nil <| LWP.ret ?_)
    refine Leads.le (σ' := ⟨[(2, .sv (.one (.slc 500 0 (usesX l).length 6)))], [(500, some ⟨44, (inssV (usesX l)).map .val, r⟩)], X⟩) (Le.of (by exact ⟨rfl, trivial⟩) (by exact ⟨rfl, trivial⟩) (by exact rfl) (by exact rfl) (by repeat' (first | refine all_cons_true ?_ ?_ | rfl | exact bytes_inUse | exact vals_inUse | exact mid_inUse rfl))) ?_
    refine Leads.le Le.loose (Leads.done ?_)
    exact ⟨[(1000001, 500)], ⟨[_], ⟨rfl, trivial⟩, rfl⟩, (by repeat' (first | exact trivial | refine And.intro ⟨_, rfl, ?_⟩ ?_ | refine And.intro ⟨_, rfl⟩ ?_ | rfl | exact Box.ren_bytes _ _ _ _ | exact Box.ren_vals _ _ _ _ | exact Box.ren_mid rfl)), rfl, rfl⟩
end Go.Proofs.YtimpjdbhalnofaaGreatDoor
end
section
namespace Go.Proofs.YtimpjdbhalnofaaGreatDoor
open Go Go.Lg Go.Lg.Fml Go.Lg.Fld Go.Lg.Arith
set_option maxRecDepth 100000
theorem eqT_expr {o a b o' a' b' : Int} {s s' : Bool} {h l h' l' : Int} (r : Bool) (hr : (o == o' && (a == a' && (b == b' && (s == s' && (h == h' && l == l'))))) = r) (w : World) :
    (Op.equalIn 10000 44 (.agg [.int .i64 o, .int .i64 a, .int .i64 b, .bool s, .int .u64 h, .int .u64 l].toArray) (.agg [.int .i64 o', .int .i64 a', .int .i64 b', .bool s', .int .u64 h', .int .u64 l'].toArray)).run Tryz.prog w = .ok r w := by
  subst hr
  rw [show (10000 : Nat) = 9999 + 1 from rfl, run_equalIn_agg w 9999 44 _ _ (by kernel_rfl) (by kernel_rfl)]
  simp only [Program.fieldsOf, Tryz.underlying44]
  go_simp
  by_cases e1 : o = o'
  · by_cases e2 : a = a'
    · by_cases e3 : b = b'
      · by_cases e4 : s = s'
        · by_cases e5 : h = h'
          · by_cases e6 : l = l' <;> simp [e1, e2, e3, e4, e5, e6]
          · simp [e1, e2, e3, e4, e5]
        · simp [e1, e2, e3, e4]
      · simp [e1, e2, e3]
    · simp [e1, e2]
  · simp [e1]
variable (X : Nat → Option Obj)
theorem gCheck (l : List Ins) (ad : Option Addr) (cap : Nat) (hin : InsIn X ad l) (hl : l.length < 1152921504606846976) : PSpec Tryz.prog X 13 [Lx ad l.length cap] (Ln .i64 (chkX l)) := by
  exact gCheck' X l ad cap hin hl
theorem gEval (l : List Ins) (ad : Option Addr) (cap : Nat) (hin : InsIn X ad l) (hbig : l.length < 1152921504606846976) (fad : Option Addr) (fcap : Nat) (fs : List (List Nm)) (hfs : FssIn X fad fs) (hfl : fs.length < 4611686018427387904) (hrl : ∀ r ∈ fs, r.length < 4611686018427387904) (hf2 : ∀ r ∈ fs, ∀ u ∈ r, In2 u.2) (at_ : Int) (hat : -9223372036854775808 ≤ at_ ∧ at_ < 9223372036854775808) :
    PSpec Tryz.prog X 11 [Lx ad l.length cap, LEnv fad fs.length fcap at_] (exR (evX l fs at_)) := by
  exact gEval' X l ad cap hin hbig fad fcap fs at_ ⟨hfs, hfl, hrl, hat⟩ hf2
theorem gShow (hT : XTab X) (l : List Ins) (ad : Option Addr) (cap : Nat) (hin : InsIn X ad l) (hl : l.length < 1152921504606846976) : PSpec Tryz.prog X 15 [Lx ad l.length cap] (Ls (showX l)) := by
  exact gShow' X hT l ad cap hin hl
theorem gUses (l : List Ins) (ad : Option Addr) (cap : Nat) (hin : InsIn X ad l) (hl : l.length ≤ 1000) : (usesX l = [] ∧ MSpec Tryz.prog X 17 [Lx ad l.length cap] [] (.sv Vnil) []) ∨
    MSpec Tryz.prog X 17 [Lx ad l.length cap] [] (.sv (.one (.slc 1000001 0 (usesX l).length 6))) [(1000001, some ⟨44, (inssV (usesX l)).map .val, true⟩)] := by
  exact .inr (gUses' X l ad cap hin hl)
theorem gEncode (l : List Ins) (ad : Option Addr) (cap : Nat) (hin : InsIn X ad l) (hl : l.length < 1152921504606846976) : PSpec Tryz.prog X 18 [Lx ad l.length cap] (.tup [Ss (encTX l), Sn .i64 (encErr l)]) := by
  exact gEncode' X l ad cap hin hl
theorem gDecode_no (s : List UInt8) (hs : s.length ≤ 4096) (h : decX s = none) : PSpec Tryz.prog X 20 [Ls s] (.tup [Vnil, Sn .i64 4]) := by
  have hM := gDecodeM X s hs
  obtain ⟨q1, q2⟩ := gd_none h
  rw [q1, q2] at hM
  exact hM.plain
theorem gDecode_ok (s : List UInt8) (hs : s.length ≤ 4096) {l : List Ins} (h : decX s = some l) : MSpec Tryz.prog X 20 [Ls s] [] (.tup [.one (.slc 1000001 0 l.length 6), Sn .i64 0]) [(1000001, some ⟨44, (inssV l).map .val, true⟩)] := by
  have hM := gDecodeM X s hs
  obtain ⟨q1, q2⟩ := gd_some h
  rw [q1, q2] at hM
  exact hM
end Go.Proofs.YtimpjdbhalnofaaGreatDoor
end
section
namespace Go.Proofs.YtimpjdbhalnofaaGreatDoor
open Go Go.Lg Go.Lg.Fml Go.Lg.Fld Go.Lg.Arith
set_option maxRecDepth 100000
variable (X : Nat → Option Obj)
def grt (l : List Ins) (fs : List (List Nm)) : Bool := decide (80 < l.length) || (decide (12 < fs.length) || fs.any fun r => decide (20 < r.length))
theorem grt_false {l : List Ins} {fs : List (List Nm)} (h : grt l fs = false) : l.length ≤ 80 ∧ fs.length ≤ 12 ∧ ∀ r ∈ fs, r.length ≤ 20 := by
  unfold grt at h
  rw [Bool.or_eq_false_iff, Bool.or_eq_false_iff, decide_eq_false_iff_not, decide_eq_false_iff_not] at h
  refine ⟨by omega, by omega, fun r hr => ?_⟩
  have := List.any_eq_false.1 h.2.2 r hr
  simpa using this
set_option maxHeartbeats 1600000 in
theorem great11_spec (l : List Ins) (ad : Option Addr) (cap : Nat) (fad : Option Addr) (fcap : Nat) (fs : List (List Nm)) (hfs : FssIn X fad fs) (hl : l.length < 9223372036854775808) (hfl : fs.length < 9223372036854775808) (hrl : ∀ r ∈ fs, r.length < 9223372036854775808) :
    PSpec Tryz.prog X 9 [Lx ad l.length cap, Lx fad fs.length fcap] (Lb (grt l fs)) := by
  refine PSpec.intro Tryz.func9 rfl (by kernel_rfl) rfl rfl ?_
  intro C
  unfold grt
  by_cases h1 : 80 < l.length
  · rw [decide_eq_true h1]
    (refine LWP.seq <| LWP.region (by kernel_rfl) <| kas rfl <| RunK.nil <| LWP.seq <| LWP.seq <| LWP.region (by kernel_rfl) <| kmv rfl <| K.lenX rfl SliceT.h rfl .plain ?_; refine K.gtr rfl rfl (decide_eq_true (by omega)) .plain <| kmv rfl <| RunK.passed rfl rfl rfl <| RunK.passed rfl rfl rfl <| RunK.passed rfl rfl rfl <| kpt rfl rfl <| RunK.nil <| LWP.condT rfl ?_; refine LWP.seq <| LWP.region (by kernel_rfl) <| kas rfl <| RunK.nil <| LWP.ret ?_)
    exact ⟨[_], ⟨rfl, trivial⟩, rfl⟩
  rw [decide_eq_false h1, Bool.false_or]
  by_cases h2 : 12 < fs.length
  · rw [decide_eq_true h2]
    (refine LWP.seq <| LWP.region (by kernel_rfl) <| kas rfl <| RunK.nil <| LWP.seq <| LWP.seq <| LWP.region (by kernel_rfl) <| kmv rfl <| K.lenX rfl SliceT.h rfl .plain ?_; refine K.gtr rfl rfl (decide_eq_false (by omega)) .plain <| kmv rfl <| gmv rfl rfl rfl <| K.lenX rfl SliceT.h rfl (.taken rfl rfl) ?_; refine K.gtr rfl rfl (decide_eq_true (by omega)) (.taken rfl rfl) ?_; refine kpf rfl rfl <| RunK.nil <| LWP.condT rfl ?_; refine LWP.seq <| LWP.region (by kernel_rfl) <| kas rfl <| RunK.nil <| LWP.ret ?_)
    exact ⟨[_], ⟨rfl, trivial⟩, rfl⟩
  rw [decide_eq_false h2, Bool.false_or]
  (refine LWP.seq <| LWP.region (by kernel_rfl) <| kas rfl <| RunK.nil <| LWP.seq <| LWP.seq <| LWP.region (by kernel_rfl) <| kmv rfl <| K.lenX rfl SliceT.h rfl .plain ?_; refine K.gtr rfl rfl (decide_eq_false (by omega)) .plain <| kmv rfl <| gmv rfl rfl rfl <| K.lenX rfl SliceT.h rfl (.taken rfl rfl) ?_; refine K.gtr rfl rfl (decide_eq_false (by omega)) (.taken rfl rfl) ?_; refine kpf rfl rfl <| RunK.nil <| LWP.condF rfl ?_; refine LWP.skip ?_; refine LWP.seq <| LWP.seq <| LWP.region (by kernel_rfl) <| kas rfl <| RunK.nil <| LWP.block ?_)
  refine LWP.loop (fun m σ => ∃ i : Nat, i ≤ fs.length ∧ m = fs.length - i ∧ (fs.take i).any (fun r => decide (20 < r.length)) = false ∧ σ = ⟨[(1, Lx fad fs.length fcap), (5, Ln .i64 (i : Nat))], [], X⟩) fs.length
    ⟨⟨[(1, Lx fad fs.length fcap), (5, Ln .i64 (0 : Nat))], [], X⟩, Le.of (by exact ⟨rfl, rfl, trivial⟩) (by exact trivial) (by exact rfl) (by exact rfl) (by exact rfl), 0, by omega, rfl, rfl, rfl⟩ ?_
  rintro m σ ⟨i, hi, rfl, hany, rfl⟩
  by_cases hlt : i < fs.length
  · obtain ⟨r, hr⟩ : ∃ r, fs[i]? = some r := ⟨_, List.getElem?_eq_getElem hlt⟩
    obtain ⟨blk, off, arr, el, fr, vad, vcap, rfl, hX, hsz, hc, hN⟩ := hfs.at_ _ r hr
    have hio : off + Int.toNat (i : Int) * 1 = off + i := by simp
    have hrb := hrl r (List.mem_of_getElem? hr)
    by_cases h3 : 20 < r.length
    · have e : (fs.any fun r => decide (20 < r.length)) = true := List.any_eq_true.2 ⟨r, List.mem_of_getElem? hr, decide_eq_true h3⟩
      rw [e]
      (refine LWP.seq <| LWP.seq <| LWP.region (by kernel_rfl) <| kmv rfl <| kmv rfl <| K.lenX rfl SliceT.h rfl .plain ?_; refine klt rfl rfl (decide_eq_true (by omega)) <| RunK.nil <| LWP.condT rfl ?_; refine LWP.skip ?_; refine LWP.seq <| LWP.block <| LWP.seq <| LWP.region (by kernel_rfl) <| kmv rfl <| kmv rfl <| K.indexX rfl rfl SliceT.h (by omega) hio .plain <| K.loadX rfl hX rfl hc .plain <| K.lenX rfl SliceT.h rfl .plain ?_; refine K.gtr rfl rfl (decide_eq_true (by omega)) .plain <| RunK.nil <| LWP.condT rfl ?_; refine LWP.seq <| LWP.region (by kernel_rfl) <| kas rfl <| RunK.nil <| LWP.ret ?_)
      exact ⟨[_], ⟨rfl, trivial⟩, rfl⟩
    · have hadd : IntKind.i64.wrap ((i : Int) + 1) = ((i + 1 : Nat) : Int) := by rw [wrap_i64 (by omega)]; omega
      have hany2 : (fs.take (i + 1)).any (fun r => decide (20 < r.length)) = false := by rw [take_snoc hr, List.any_append, hany]; simp; omega
      (refine LWP.seq <| LWP.seq <| LWP.region (by kernel_rfl) <| kmv rfl <| kmv rfl <| K.lenX rfl SliceT.h rfl .plain ?_; refine klt rfl rfl (decide_eq_true (by omega)) <| RunK.nil <| LWP.condT rfl ?_; refine LWP.skip ?_; refine LWP.seq <| LWP.block <| LWP.seq <| LWP.region (by kernel_rfl) <| kmv rfl <| kmv rfl <| K.indexX rfl rfl SliceT.h (by omega) hio .plain <| K.loadX rfl hX rfl hc .plain <| K.lenX rfl SliceT.h rfl .plain ?_; refine K.gtr rfl rfl (decide_eq_false (by omega)) .plain <| RunK.nil <| LWP.condF rfl ?_; refine LWP.skip ?_; refine LWP.region (by kernel_rfl) <| kmv rfl <| kad rfl rfl hadd <| kas rfl <| RunK.nil ?_)
      exact ⟨_, ⟨[(1, Lx (some ⟨blk, off, none⟩) fs.length fcap), (5, Ln .i64 (i + 1 : Nat))], [], X⟩, by omega, Le.of (by exact ⟨rfl, rfl, trivial⟩) (by exact trivial) (by exact rfl) (by exact rfl) (by exact rfl), i + 1, by omega, rfl, hany2, rfl⟩
  · have e : i = fs.length := by omega
    subst e
    rw [List.take_length] at hany
    rw [hany]
    (refine LWP.seq <| LWP.seq <| LWP.region (by kernel_rfl) <| kmv rfl <| kmv rfl <| K.lenX rfl SliceT.h rfl .plain ?_; refine klt rfl rfl (decide_eq_false (by omega)) <| RunK.nil <| LWP.condF rfl ?_; refine LWP.exit <| LWP.seq <| LWP.region (by kernel_rfl) <| kas rfl <| RunK.nil <| LWP.ret ?_)
    exact ⟨[_], ⟨rfl, trivial⟩, rfl⟩
theorem InsIn.parts {X : Nat → Option Obj} {ad : Option Addr} {l : List Ins} (h : InsIn X ad l) {i : Nat} {x : Ins} (hx : l[i]? = some x) :
    ∃ (blk off : Nat) (arr : Array Value) (el : TypeId) (fr : Nat × Nat), ad = some ⟨blk, off, none⟩ ∧ X blk = some (.cells arr el fr) ∧ arr[off + i * 6]? = some (.int .i64 x.op) ∧ arr[off + i * 6 + 1]? = some (.int .i64 x.a) ∧ arr[off + i * 6 + 2]? = some (.int .i64 x.b) ∧ off + i * 6 + 3 + 3 ≤ arr.size ∧ ((arr.toList.drop (off + i * 6 + 3)).take 3).map CV.val = cI x.k.1 x.k.2 := by
  obtain ⟨blk, off, arr, el, fr, h1, h2, h3, h4⟩ := h.rows i (insV x) (by rw [List.getElem?_map, hx]; rfl)
  have g : ∀ j, j < 6 → arr[off + i * 6 + j]? = (insV x)[j]? := fun j hj => by
    rw [← h4, List.getElem?_take, if_pos hj, List.getElem?_drop, Array.getElem?_toList]
  refine ⟨blk, off, arr, el, fr, h1, h2, g 0 (by decide), g 1 (by decide), g 2 (by decide), by omega, ?_⟩
  have h5 := congrArg (fun q : List Value => (q.drop 3).map CV.val) h4
  simp only [List.drop_take, List.drop_drop] at h5
  exact h5
end Go.Proofs.YtimpjdbhalnofaaGreatDoor
end
section
namespace Go.Proofs.YtimpjdbhalnofaaGreatDoor
open Go Go.Lg Go.Lg.Fml Go.Lg.Fld Go.Lg.Arith
set_option maxRecDepth 100000
def code0 : List Ins := [⟨2, 0, 0, (false, 0)⟩, ⟨1, 0, 0, (false, 2)⟩, ⟨7, 0, 0, (false, 0)⟩]
def code1 : List Ins := [⟨1, 0, 0, (false, 0)⟩, ⟨1, 0, 0, (false, 0)⟩, ⟨17, 0, 0, (false, 0)⟩]
def code2 : List Ins := [⟨3, 3, 0, (false, 0)⟩]
theorem small_0 : ∀ x ∈ code0, smallI x := by
  intro x hx
  simp only [code0, List.mem_cons, List.not_mem_nil, or_false] at hx
  rcases hx with rfl | rfl | rfl <;> exact ⟨by decide, by decide, by decide, by show (0 : Int) ≤ _ ∧ _ < _; decide⟩
theorem small_1 : ∀ x ∈ code1, smallI x := by
  intro x hx
  simp only [code1, List.mem_cons, List.not_mem_nil, or_false] at hx
  rcases hx with rfl | rfl | rfl <;> exact ⟨by decide, by decide, by decide, by show (0 : Int) ≤ _ ∧ _ < _; decide⟩
theorem small_2 : ∀ x ∈ code2, smallI x := by
  intro x hx
  simp only [code2, List.mem_cons, List.not_mem_nil, or_false] at hx
  subst hx
  exact ⟨by decide, by decide, by decide, by show (0 : Int) ≤ _ ∧ _ < _; decide⟩
theorem ev0 : evX code0 [[(false, 21)]] 0 = .ok (false, 42) := by rfl
theorem ev0n : evX code0 [] 0 = .error 3 := by rfl
theorem ev1n : evX code1 [] 0 = .error 9 := by rfl
theorem enc2 : encTX code2 = [1, 3, 3] ∧ encErr code2 = 0 := ⟨by rfl, by rfl⟩
theorem dec2 : decX [1, 3, 3] = some code2 := by rfl
theorem itoa0 : Lib.itoa 0 = [48] := by
  rw [show (0 : Int) = ((0 : Nat) : Int) from rfl]
  first
    | rfl
    | decide
    | simp [Lib.itoa, Lib.decDigits]
theorem dec2d : Lib.decDigits 2 = [50] := by
  rw [Lib.decDigits_one (by decide)]
  rfl
theorem show0 : showX code0 = [109, 117, 108, 40, 102, 48, 46, 48, 44, 50, 41] := by
  have h1 : textQ 2 = [50] := dec2d
  have h2 := itoa0
  unfold showX
  rw [if_pos (by rfl)]
  show ((wordX 7 ++ [40]) ++ joinS [([102] ++ dg1 0) ++ ([46] ++ dg1 0), textQ (zz (false, 2))]) ++ [41] = _
  rw [show zz (false, 2) = 2 from rfl, h1, show dg1 0 = [48] from h2]
  rfl
theorem uses0 : usesX code0 = [⟨2, 0, 0, (false, 0)⟩] := by rfl
variable (X : Nat → Option Obj)
theorem fss_nil {ad : Option Addr} : FssIn X ad [] := ⟨fun i r h => by simp at h⟩
theorem eval_lent {S : Nat → Option (Option Box)} {k : Nat} {l : List Ins} {el : TypeId} {row : Bool} (hl : l.length ≤ 1000) (hi : ∀ x ∈ l, smallI x) (hk : S k = some (some ⟨el, (inssV l).map .val, row⟩)) :
    ∀ (Y : Nat → Option Obj) (us : List Value), (∀ b o, X b = some o → Y b = some o) → Lent S Y [.sv (.one (.slc k 0 l.length 6)), LEnv none 0 0 0] us → PSpec Tryz.prog Y 11 (us.map toLV) (exR (evX l [] 0)) := by
  intro Y us hY hL
  obtain ⟨u2, us2, rfl, h2, u3, us3, rfl, h3, rfl⟩ := hL
  have h3 : u3 = .agg [Value.slice none 0 0, .int .i64 0].toArray := h3 [Value.slice none 0 0, .int .i64 0] rfl
  subst h3
  obtain ⟨el', cells, row', hk', blk, cap2, arr, fr, us', sp, rfl, hYb, hc, hfit, harr, hv⟩ := h2
  rw [hk] at hk'
  simp only [Option.some.injEq, Box.mk.injEq] at hk'
  obtain ⟨rfl, rfl, rfl⟩ := hk'
  have := hv (inssV l) rfl
  subst this
  exact gEval Y l (some ⟨blk, 0, none⟩) cap2 (ins_in hYb hi ⟨sp, harr⟩) (by omega) none 0 [] (fss_nil Y) (by decide) (fun r hr => by cases hr) (fun r hr => by cases hr) 0 (by decide)
theorem encode_lent {S : Nat → Option (Option Box)} {k : Nat} {l : List Ins} {el : TypeId} {row : Bool} (hl : l.length ≤ 1000) (hi : ∀ x ∈ l, smallI x) (hk : S k = some (some ⟨el, (inssV l).map .val, row⟩)) :
    ∀ (Y : Nat → Option Obj) (us : List Value), (∀ b o, X b = some o → Y b = some o) → Lent S Y [.sv (.one (.slc k 0 l.length 6))] us → PSpec Tryz.prog Y 18 (us.map toLV) (.tup [Ss (encTX l), Sn .i64 (encErr l)]) := by
  intro Y us hY hL
  obtain ⟨u2, us2, rfl, h2, rfl⟩ := hL
  obtain ⟨el', cells, row', hk', blk, cap2, arr, fr, us', sp, rfl, hYb, hc, hfit, harr, hv⟩ := h2
  rw [hk] at hk'
  simp only [Option.some.injEq, Box.mk.injEq] at hk'
  obtain ⟨rfl, rfl, rfl⟩ := hk'
  have := hv (inssV l) rfl
  subst this
  exact gEncode Y l (some ⟨blk, 0, none⟩) cap2 (ins_in hYb hi ⟨sp, harr⟩) (by omega)
theorem eval_one {ad : Option Addr} {cap : Nat} {bx : List (Nat × Option Box)} (hin : InsIn X ad code0) (h21 : Go.Lg.look 21 bx = some (some ⟨58, [.slc 20 0 1 3], false⟩)) (h20 : Go.Lg.look 20 bx = some (some ⟨30, (nsV [21]).map .val, false⟩)) :
    ∀ (Y : Nat → Option Obj) (us : List Value) (S : Nat → Option (Option Box)) (ι : Nat → Nat × Nat), (∀ b o, X b = some o → Y b = some o) → (∀ k, k ∈ [21, 20] → S k = Go.Lg.look k bx) → LVs.rel S ι [Lx ad 3 cap, .sv (.agg [.slc 21 0 1 1, .val (.int .i64 0)])] us → LentAt [21, 20] S ι Y → PSpec Tryz.prog Y 11 (us.map toLV) (exR (.ok (false, 42))) := by
  intro Y us S ι hY hS hrel hL
  have s21 := (hS 21 (by simp)).trans h21
  have s20 := (hS 20 (by simp)).trans h20
  match us, hrel with
  | [u1, u2], ⟨h1, ⟨av, e1, ha⟩, _⟩ =>
    have h1 : u1 = .slice ad 3 cap := h1
    subst h1
    obtain ⟨arr, fr, g1, _, g3⟩ := hL 21 (by simp) _ s21 rfl
    obtain ⟨varr, vfr, k1, _, k3⟩ := hL 20 (by simp) _ s20 rfl
    have g3 : CVs.rel S ι [.slc 20 0 1 3] arr.toList := g3
    have k3 : CVs.rel S ι ((nsV [21]).map .val) varr.toList := k3
    have k3 := rel_vals k3
    obtain ⟨ec, hav⟩ : ∃ ec, av.toList = [.slice (some ⟨(ι 21).1, 0, none⟩) 1 ec, .int .i64 0] := by
      match av.toList, ha with
      | [x, y], ⟨hx, hy, _⟩ =>
        have hy : y = .int .i64 0 := hy
        have hx : (CV.slc 21 0 1 1).rel S ι x := hx
        simp only [CV.rel, s21] at hx
        obtain ⟨c, rfl, _, _⟩ := hx
        exact ⟨c, by rw [hy]⟩
    have hav : av = #[.slice (some ⟨(ι 21).1, 0, none⟩) 1 ec, .int .i64 0] := by rw [← Array.toArray_toList (xs := av), hav]
    subst e1 hav
    obtain ⟨vc, hva⟩ : ∃ vc, arr.toList = [.slice (some ⟨(ι 20).1, 0, none⟩) 1 vc] := by
      match arr.toList, g3 with
      | [x], ⟨hx, _⟩ =>
        have hx : (CV.slc 20 0 1 3).rel S ι x := hx
        simp only [CV.rel, s20] at hx
        obtain ⟨c, rfl, _, _⟩ := hx
        exact ⟨c, rfl⟩
    have hN : NumsIn Y (some ⟨(ι 20).1, 0, none⟩) [(false, 21)] := nms_in k1 (fun u hu => by rw [List.mem_singleton.1 hu]; show (0 : Int) ≤ 21 ∧ (21 : Int) < _; omega) ⟨[], by rw [k3]; rfl⟩
    have hF : FssIn Y (some ⟨(ι 21).1, 0, none⟩) [[(false, 21)]] := ⟨fun i r hr => by
      match i, hr with
      | 0, hr =>
        simp only [List.getElem?_cons_zero, Option.some.injEq] at hr
        subst hr
        have hl : arr.size = 1 := by rw [← Array.length_toList, hva]; rfl
        exact ⟨(ι 21).1, 0, arr, _, fr, some ⟨(ι 20).1, 0, none⟩, vc, rfl, g1, by omega, by rw [← Array.getElem?_toList, hva]; rfl, hN⟩
      | _ + 1, hr => simp at hr⟩
    have h := gEval Y code0 ad cap (hin.mono hY) (by decide) (some ⟨(ι 21).1, 0, none⟩) ec [[(false, 21)]] hF (by decide) (fun r hr => by rw [List.mem_singleton.1 hr]; decide) (fun r hr u hu => by
      rw [List.mem_singleton.1 hr] at hu
      rw [List.mem_singleton.1 hu]
      show (0 : Int) ≤ 21 ∧ (21 : Int) < _; omega) 0 (by decide)
    rw [ev0] at h
    exact h
end Go.Proofs.YtimpjdbhalnofaaGreatDoor
end
section
namespace Go.Proofs.YtimpjdbhalnofaaGreatDoor
open Go Go.Lg Go.Lg.Fml Go.Lg.Fld Go.Lg.Arith
set_option maxRecDepth 100000
variable (X : Nat → Option Obj)
abbrev izs : List Value := [.int .i64 0, .int .i64 0, .int .i64 0, .bool false, .int .u64 0, .int .u64 0]
set_option maxHeartbeats 12800000 in
theorem awake11_spec (hTab : XTab X) : PSpec Tryz.prog X 8 [] (Lb true) := by
  have o2 := Of_spec X 2 (by decide)
  refine PSpec.intro Tryz.func8 rfl (by kernel_rfl) rfl rfl ?_
  intro C
  (refine LWP.seq <| LWP.region (by kernel_rfl) <| kas rfl <| RunK.nil <| LWP.seq <| LWP.region (by kernel_rfl) <| K.build rfl rfl (by exact rfl) (by exact nl6 rfl rfl rfl rfl rfl rfl rfl) .plain ?_; refine kca rfl rfl (o2) <| K.build rfl rfl (by exact rfl) (by exact nl6 rfl rfl rfl rfl rfl rfl rfl) .plain ?_; refine K.build rfl rfl (by exact rfl) (by exact nl6 rfl rfl rfl rfl rfl rfl rfl) .plain ?_; refine K.buildSlc (zs := (List.replicate 3 izs).flatten) (sz := 6) (e := 44) (cs' := (inssV code0).map .val) (by kernel_rfl) rfl rfl rfl rfl rfl rfl .plain <| kas rfl <| RunK.nil <| LWP.seq ?_)
  refine LWP.le (σ' := ⟨[(1, .sv (.one (.slc 16 0 3 6)))], [(16, some ⟨44, (inssV code0).map .val, false⟩)], X⟩) (Le.of (by exact ⟨rfl, trivial⟩) (by exact ⟨rfl, trivial⟩) (by exact rfl) (by exact rfl) (by repeat' (first | refine all_cons_true ?_ ?_ | rfl | exact bytes_inUse | exact vals_inUse | exact mid_inUse rfl))) ?_
  refine LWP.freeze rfl rfl rfl ?_
  intro blk cap arr fr hXn hFz hcp hfit hsp
  have hin : InsIn (withBlock X blk (.cells arr 44 fr)) (some ⟨blk, 0, none⟩) code0 := ins_in (withBlock_at _ _ _) small_0 hsp
  replace hTab : XTab (withBlock X blk (.cells arr 44 fr)) := xtab_mono (withBlock_old hXn) hTab
  generalize withBlock X blk (.cells arr 44 fr) = Y at *
  have o21 := Of_spec Y 21 (by decide)
  have o42 := Of_spec Y 42 (by decide)
  have e0n := gEval Y code0 (some ⟨blk, 0, none⟩) cap hin (by decide) none 0 [] (fss_nil Y) (by decide) (fun r hr => by cases hr) (fun r hr => by cases hr) 0 (by decide)
  rw [ev0n] at e0n
  have e1n := fun S el row hk => eval_lent Y (S := S) (k := 36) (l := code1) (el := el) (row := row) (by decide) small_1 hk
  rw [ev1n] at e1n
  have c2 := fun S el row hk => encode_lent Y (S := S) (k := 43) (l := code2) (el := el) (row := row) (by decide) small_2 hk
  rw [enc2.1, enc2.2] at c2
  have d2 := gDecode_ok Y [1, 3, 3] (by decide) dec2
  have hSh := gShow Y hTab code0 (some ⟨blk, 0, none⟩) cap hin (by decide)
  rw [show0] at hSh
  have hC0 := gCheck Y [] none 0 ⟨fun i r h => by simp at h, fun x hx => by cases hx⟩ (by decide)
  have hU : MSpec Tryz.prog Y 17 [Lx (some ⟨blk, 0, none⟩) 3 cap] [] (.sv (.one (.slc 1000001 0 1 6))) [(1000001, some ⟨44, (inssV [⟨2, 0, 0, (false, 0)⟩]).map .val, true⟩)] := by
    rcases gUses Y code0 (some ⟨blk, 0, none⟩) cap hin (by decide) with ⟨h, _⟩ | h
    · rw [uses0] at h; cases h
    · rw [uses0] at h; exact h
  have q42 := eqQ 42 42 true (decide_eq_true rfl)
  have qI := eqT_expr (o := 3) (o' := 3) (a := 3) (a' := 3) (b := 0) (b' := 0) (s := false) (s' := false) (h := 0) (h' := 0) (l := 0) (l' := 0) true rfl
  (refine LWP.region (by kernel_rfl) <| kmv rfl <| kca rfl rfl o21 <| K.buildSlc (zs := [.bool false, .int .u64 0, .int .u64 0]) (sz := 3) (e := 30) (cs' := (nsV [21]).map .val) (by kernel_rfl) rfl rfl rfl rfl rfl rfl .plain <| K.buildSlc (zs := [.slice none 0 0]) (sz := 1) (e := 58) (cs' := [.slc 20 0 1 3]) (by kernel_rfl) rfl rfl rfl rfl rfl rfl .plain <| K.build rfl rfl (by exact rfl) (by exact nl2 rfl rfl rfl) .plain ?_; refine K.callY [21, 20] rfl rfl (eval_one Y hin rfl rfl) .plain ?_; refine kmv rfl <| kex rfl rfl <| kex rfl rfl <| K.alloc rfl .plain ?_; refine K.storeAll rfl rfl rfl rfl rfl rfl .plain ?_; refine kas rfl <| RunK.nil <| LWP.seq <| LWP.region (by kernel_rfl) <| kmv rfl <| K.build rfl rfl (by exact rfl) (by exact nl2 rfl rfl rfl) .plain ?_; refine kca rfl rfl e0n <| kmv rfl <| kex rfl rfl <| kex rfl rfl <| K.alloc rfl .plain ?_; refine K.storeAll rfl rfl rfl rfl rfl rfl .plain ?_; refine kas rfl <| RunK.nil <| LWP.seq <| LWP.region (by kernel_rfl) <| K.build rfl rfl (by exact rfl) (by exact nl6 rfl rfl rfl rfl rfl rfl rfl) .plain ?_; refine K.build rfl rfl (by exact rfl) (by exact nl6 rfl rfl rfl rfl rfl rfl rfl) .plain ?_; refine K.build rfl rfl (by exact rfl) (by exact nl6 rfl rfl rfl rfl rfl rfl rfl) .plain ?_; refine K.buildSlc (zs := (List.replicate 3 izs).flatten) (sz := 6) (e := 44) (cs' := (inssV code1).map .val) (by kernel_rfl) rfl rfl rfl rfl rfl rfl .plain <| K.build rfl rfl (by exact rfl) (by exact nl2 rfl rfl rfl) .plain ?_; refine K.callX [36] rfl rfl rfl (e1n _ _ _ rfl) .plain ?_; refine kmv rfl <| kex rfl rfl <| kex rfl rfl <| K.alloc rfl .plain ?_; refine K.storeAll rfl rfl rfl rfl rfl rfl .plain ?_; refine kas rfl <| RunK.nil <| LWP.seq <| LWP.region (by kernel_rfl) <| K.build rfl rfl (by exact rfl) (by exact nl6 rfl rfl rfl rfl rfl rfl rfl) .plain ?_; refine K.buildSlc (zs := izs) (sz := 6) (e := 44) (cs' := (inssV code2).map .val) (by kernel_rfl) rfl rfl rfl rfl rfl rfl .plain <| K.callX [43] rfl rfl rfl (c2 _ _ _ rfl) .plain ?_; refine kmv rfl <| kex rfl rfl <| kex rfl rfl <| kas rfl <| kas rfl <| RunK.nil <| LWP.seq <| LWP.region (by kernel_rfl) <| K.callMp [(1000001, 601)] (.tup [.one (.slc 601 0 1 6), Sn .i64 0]) [(601, some ⟨44, (inssV code2).map .val, true⟩)] (d2) rfl rfl (by exact trivial) rfl rfl rfl rfl rfl (by exact (.box rfl rfl .nil)) .plain <| kmv rfl <| kex rfl rfl <| kex rfl rfl <| kas rfl <| kas rfl ?_; refine RunK.nil <| LWP.seq ?_)
  refine LWP.le (σ' := ⟨[(1, Lx (some ⟨blk, 0, none⟩) 3 cap), (2, Lp 2), (3, Ln .i64 0), (5, Ln .i64 3), (7, Ln .i64 9), (8, Ls [1, 3, 3]), (9, Ln .i64 0), (10, .sv (.one (.slc 601 0 1 6))), (11, Ln .i64 0)], [(2, some ⟨30, cQ 42, false⟩), (601, some ⟨44, (inssV code2).map .val, true⟩)], Y⟩) (Le.of (by exact ⟨rfl, rfl, rfl, rfl, rfl, rfl, rfl, rfl, rfl, trivial⟩) (by exact ⟨rfl, rfl, trivial⟩) (by exact rfl) (by exact rfl) (by repeat' (first | refine all_cons_true ?_ ?_ | rfl | exact bytes_inUse | exact vals_inUse | exact mid_inUse rfl))) ?_
  (refine LWP.draws mixed (by kernel_rfl) <| kmv rfl <| keq rfl rfl (r := true) rfl <| kmv rfl <| K.loadAll rfl rfl rfl (.taken rfl rfl) ?_; refine gca rfl rfl o42 rfl rfl <| K.aggEq rfl rfl rfl rfl (by kernel_rfl) q42 (.inl ⟨rfl, rfl⟩) (.taken rfl rfl) ?_; refine kpt rfl rfl <| kmv rfl <| gmv rfl rfl rfl <| K.eql rfl rfl (r := true) rfl (.taken rfl rfl) ?_; refine kpt rfl rfl <| kmv rfl <| gmv rfl rfl rfl <| K.eql rfl rfl (r := true) rfl (.taken rfl rfl) ?_; refine kpt rfl rfl <| kmv rfl <| gmv rfl rfl rfl <| K.eql rfl rfl (r := true) rfl (.taken rfl rfl) ?_; refine kpt rfl rfl <| kmv rfl <| gmv rfl rfl rfl <| K.strEq rfl rfl (strs_eq (r := true) (by decide)) (.taken rfl rfl) ?_; refine kpt rfl rfl <| kmv rfl <| gmv rfl rfl rfl <| K.eql rfl rfl (r := true) rfl (.taken rfl rfl) ?_; refine kpt rfl rfl <| kmv rfl <| gmv rfl rfl rfl <| K.lenSlc rfl SliceT.h rfl (.taken rfl rfl) ?_; refine K.eql rfl rfl (r := true) rfl (.taken rfl rfl) ?_; refine kpt rfl rfl <| kmv rfl <| gmv rfl rfl rfl <| K.indexSlc rfl rfl (by decide) rfl (.taken rfl rfl) ?_; refine K.loadPart rfl rfl rfl rfl (.taken rfl rfl) ?_; refine K.build rfl rfl (by exact rfl) (by exact nl6 rfl rfl rfl rfl rfl rfl rfl) (.taken rfl rfl) ?_; refine K.aggEq rfl rfl rfl rfl (by kernel_rfl) qI (.inl ⟨rfl, rfl⟩) (.taken rfl rfl) ?_; refine kpt rfl rfl <| kmv rfl <| gmv rfl rfl rfl <| gca rfl rfl hSh rfl rfl <| K.strEq rfl rfl (strs_eq (r := true) (by decide)) (.taken rfl rfl) ?_; refine kpt rfl rfl <| kmv rfl <| gca rfl rfl hC0 rfl rfl <| K.eql rfl rfl (r := true) rfl (.taken rfl rfl) ?_; refine kpt rfl rfl <| kmv rfl <| gmv rfl rfl rfl <| K.callMp [(1000001, 602)] (.sv (.one (.slc 602 0 1 6))) [(602, some ⟨44, (inssV [⟨2, 0, 0, (false, 0)⟩]).map .val, true⟩)] (hU) rfl rfl (by exact trivial) rfl rfl rfl rfl rfl (by exact (.box rfl rfl .nil)) (.taken rfl rfl) ?_; refine K.lenSlc rfl SliceT.h rfl (.taken rfl rfl) ?_; refine K.eql rfl rfl (r := true) rfl (.taken rfl rfl) ?_; refine kpt rfl rfl <| kas rfl <| RunK.nil <| And.intro (by kernel_rfl) ?_; refine LWP.ret ?_)
  exact ⟨[_], ⟨rfl, trivial⟩, rfl⟩
end Go.Proofs.YtimpjdbhalnofaaGreatDoor
end
section
namespace Go.Proofs.YtimpjdbhalnofaaGreatDoor
open Go Go.Lg Go.Lg.Fml Go.Lg.Fld Go.Lg.Arith
set_option maxRecDepth 100000
variable (X : Nat → Option Obj)
theorem encTX_len (l : List Ins) (h : l.length ≤ 80) : (encTX l).length ≤ 1441 := by
  unfold encTX
  split
  · unfold encX
    have := encIs_len l
    rw [List.length_cons]; omega
  · simp
set_option maxHeartbeats 12800000 in
theorem ExprBack_spec (hTab : XTab X) (l : List Ins) (ad : Option Addr) (cap : Nat) (hin : InsIn X ad l) (hl : l.length < 9223372036854775808) (c : UInt8) :
    PSpec Tryz.prog X 5 [Lx ad l.length cap, Ln .u8 (c.toNat : Nat)] (Lb true) := by
  have hW := awake11_spec X hTab
  have hG := great11_spec X l ad cap none 0 [] (fss_nil X) hl (by decide) (fun r hr => by cases hr)
  refine PSpec.intro Tryz.func5 rfl (by kernel_rfl) rfl rfl ?_
  intro C
  cases hg : grt l [] with
  | true =>
    rw [hg] at hG
    (refine LWP.seq <| LWP.region (by kernel_rfl) <| kas rfl <| RunK.nil <| LWP.seq <| LWP.seq <| LWP.region (by kernel_rfl) <| kca rfl rfl (hW) <| K.not rfl rfl .plain <| RunK.nil <| LWP.condF rfl ?_; refine LWP.skip ?_; refine LWP.seq <| LWP.seq <| LWP.region (by kernel_rfl) <| kmv rfl <| kca rfl rfl (hG) <| RunK.nil <| LWP.condT rfl ?_; refine LWP.seq <| LWP.region (by kernel_rfl) <| kas rfl <| RunK.nil <| LWP.ret ?_)
    exact ⟨[_], ⟨rfl, trivial⟩, rfl⟩
  | false =>
  rw [hg] at hG
  obtain ⟨h80, _, _⟩ := grt_false hg
  have hE := gEncode X l ad cap hin (by omega)
  by_cases he : encErr l = 0
  case neg =>
    rw [show encTX l = [] from if_neg he] at hE
    (refine LWP.seq <| LWP.region (by kernel_rfl) <| kas rfl <| RunK.nil <| LWP.seq <| LWP.seq <| LWP.region (by kernel_rfl) <| kca rfl rfl (hW) <| K.not rfl rfl .plain <| RunK.nil <| LWP.condF rfl ?_; refine LWP.skip ?_; refine LWP.seq <| LWP.seq <| LWP.region (by kernel_rfl) <| kmv rfl <| kca rfl rfl (hG) <| RunK.nil <| LWP.condF rfl ?_; refine LWP.skip ?_; refine LWP.seq <| LWP.region (by kernel_rfl) <| kmv rfl <| kca rfl rfl (hE) <| kmv rfl <| kex rfl rfl <| kex rfl rfl <| kas rfl <| kas rfl <| RunK.nil <| LWP.seq <| LWP.seq <| LWP.region (by kernel_rfl) <| kmv rfl ?_; refine kne rfl rfl (bne_iff_ne.2 he) <| RunK.nil <| LWP.condT rfl ?_; refine LWP.seq <| LWP.region (by kernel_rfl) <| kmv rfl <| kse rfl rfl (strs_eq (r := true) (by decide)) <| kas rfl <| RunK.nil <| LWP.ret ?_)
    exact ⟨[_], ⟨rfl, trivial⟩, rfl⟩
  have hi2 : ∀ x ∈ l, In2 x.k.2 := fun x hx => (hin.small x hx).2.2.2
  have hT : encTX l = encX l := if_pos he
  rw [hT, he] at hE
  have hlb := encTX_len l h80
  rw [hT] at hlb
  have h1 : 1 ≤ (encX l).length := by unfold encX; simp
  have hD1 := gDecode_ok X (encX l) (by omega) (decX_enc he hi2)
  (refine LWP.seq <| LWP.region (by kernel_rfl) <| kas rfl <| RunK.nil <| LWP.seq <| LWP.seq <| LWP.region (by kernel_rfl) <| kca rfl rfl (hW) <| K.not rfl rfl .plain <| RunK.nil <| LWP.condF rfl ?_; refine LWP.skip ?_; refine LWP.seq <| LWP.seq <| LWP.region (by kernel_rfl) <| kmv rfl <| kca rfl rfl (hG) <| RunK.nil <| LWP.condF rfl ?_; refine LWP.skip ?_; refine LWP.seq <| LWP.region (by kernel_rfl) <| kmv rfl <| kca rfl rfl (hE) <| kmv rfl <| kex rfl rfl <| kex rfl rfl <| kas rfl <| kas rfl <| RunK.nil <| LWP.seq <| LWP.seq <| LWP.region (by kernel_rfl) <| kmv rfl ?_; refine kne rfl rfl (r := false) rfl <| RunK.nil <| LWP.condF rfl ?_; refine LWP.skip ?_; refine LWP.seq <| LWP.region (by kernel_rfl) <| kmv rfl <| K.callMp [(1000001, 600)] (.tup [.one (.slc 600 0 l.length 6), Sn .i64 0]) [(600, some ⟨44, (inssV l).map .val, true⟩)] (hD1) rfl rfl (by exact trivial) rfl rfl rfl rfl rfl (by exact (.box rfl (Box.ren_vals _ _ _ _) .nil)) .plain <| kmv rfl <| kex rfl rfl <| kex rfl rfl <| kas rfl <| kas rfl <| RunK.nil <| LWP.seq ?_)
  refine LWP.le (σ' := ⟨[(7, .sv (.one (.slc 600 0 l.length 6))), (0, Lx ad l.length cap), (1, Ln .u8 (c.toNat : Nat)), (5, Ls (encX l)), (8, Ln .i64 0)], [(600, some ⟨44, (inssV l).map .val, true⟩)], X⟩) (Le.of (by exact ⟨rfl, rfl, rfl, rfl, rfl, trivial⟩) (by exact ⟨rfl, trivial⟩) (by exact rfl) (by exact rfl) (by repeat' (first | refine all_cons_true ?_ ?_ | rfl | exact bytes_inUse | exact vals_inUse | exact mid_inUse rfl))) ?_
  refine LWP.freeze rfl rfl rfl ?_
  intro b1 c1 a1 f1 hn _ _ _ hsp
  have hM : InsIn (withBlock X b1 (.cells a1 44 f1)) (some ⟨b1, 0, none⟩) l := ins_in (withBlock_at _ _ _) hin.small hsp
  replace hin := hin.mono (withBlock_old (o := .cells a1 44 f1) hn)
  replace hTab : XTab (withBlock X b1 (.cells a1 44 f1)) := xtab_mono (withBlock_old hn) hTab
  clear hW hG hE hD1
  generalize withBlock X b1 (.cells a1 44 f1) = Y at *
  have hD2 := gDecode_no Y (encX l ++ [c]) (by rw [List.length_append]; simp only [List.length_singleton]; omega) (decX_more he hi2 c)
  have hD3 := gDecode_no Y ((encX l).take ((encX l).length - 1)) (by rw [List.length_take]; omega) (decX_less he hi2)
  have hS1 := gShow Y hTab l ad cap hin (by omega)
  have hS2 := gShow Y hTab l (some ⟨b1, 0, none⟩) c1 hM (by omega)
  generalize encX l = b at *
  generalize showX l = sh at *
  have hlen : (⟨b.toArray⟩ : ByteArray).size = b.length := rfl
  have hcat : (⟨b.toArray⟩ : ByteArray) ++ ⟨([c] : List UInt8).toArray⟩ = ⟨(b ++ [c]).toArray⟩ := str_add b [c]
  have gcat : (⟨b.toArray⟩ : ByteArray).size + (⟨([c] : List UInt8).toArray⟩ : ByteArray).size ≤ 9223372036854775807 := by show b.length + 1 ≤ _; omega
  have hsub : IntKind.i64.wrap (((⟨b.toArray⟩ : ByteArray).size : Int) - 1) = ((b.length - 1 : Nat) : Int) := by rw [hlen, wrap_i64 (by omega)]; omega
  have hcut : (⟨b.toArray⟩ : ByteArray).extract 0 (b.length - 1) = ⟨(b.take (b.length - 1)).toArray⟩ := by rw [str_cut, List.drop_zero, Nat.sub_zero]
  have hle0 : b.length - 1 ≤ (⟨b.toArray⟩ : ByteArray).size := by rw [hlen]; omega
  (refine LWP.region (by kernel_rfl) <| kmv rfl <| kmv rfl <| K.buildSlc (zs := [.int .u8 0]) (sz := 1) (e := 5) (cs' := [c].map bc) (by kernel_rfl) rfl rfl rfl rfl rfl rfl .plain <| K.convStr (l := [c]) rfl rfl (by kernel_rfl) StrT.u (Nat.le_refl _) rfl .plain <| K.strAdd rfl rfl gcat hcat .plain <| kca rfl rfl hD2 <| kmv rfl <| kex rfl rfl <| kex rfl rfl <| kas rfl <| kas rfl <| RunK.nil <| LWP.seq ?_; refine LWP.region (by kernel_rfl) <| kmv rfl <| kmv rfl <| kln rfl <| K.sub rfl rfl hsub .plain <| K.sliceStr (l := 0) (h := b.length - 1) (kl := .i64) (kh := .i64) rfl StrT.u rfl rfl ⟨Nat.zero_le _, hle0⟩ hcut .plain <| kca rfl rfl hD3 <| kmv rfl <| kex rfl rfl <| kex rfl rfl <| kas rfl <| kas rfl <| RunK.nil <| LWP.seq ?_; refine LWP.seq <| LWP.region (by kernel_rfl) <| kmv rfl <| kne rfl rfl (r := false) rfl <| kmv rfl <| gmv rfl rfl rfl <| K.neq rfl rfl (r := false) rfl (.taken rfl rfl) ?_; refine kpf rfl rfl <| kmv rfl <| gmv rfl rfl rfl <| K.neq rfl rfl (r := false) rfl (.taken rfl rfl) ?_; refine kpf rfl rfl <| kmv rfl <| gmv rfl rfl rfl <| K.lenX rfl SliceT.h rfl (.taken rfl rfl) ?_; refine gmv rfl rfl rfl <| K.lenX rfl SliceT.h rfl (.taken rfl rfl) ?_; refine K.neq rfl rfl (bne_eq_false_iff_eq.2 rfl) (.taken rfl rfl) ?_; refine kpf rfl rfl <| kmv rfl <| gmv rfl rfl rfl <| gca rfl rfl hS2 rfl rfl <| gmv rfl rfl rfl <| gca rfl rfl hS1 rfl rfl <| K.strNe rfl rfl (strs_ne (r := false) (by simp)) (.taken rfl rfl) ?_; refine kpf rfl rfl <| RunK.nil <| LWP.condF rfl ?_; refine LWP.skip ?_; refine LWP.seq <| LWP.seq <| LWP.region (by kernel_rfl) <| kas rfl <| RunK.nil <| LWP.block ?_)
  refine LWP.loop (fun m σ => ∃ i : Nat, i ≤ l.length ∧ m = l.length - i ∧ σ = ⟨[(0, Lx ad l.length cap), (7, Lx (some ⟨b1, 0, none⟩) l.length c1), (13, Ln .i64 (i : Nat))], [], Y⟩) l.length
    ⟨⟨[(0, Lx ad l.length cap), (7, Lx (some ⟨b1, 0, none⟩) l.length c1), (13, Ln .i64 (0 : Nat))], [], Y⟩, Le.of (by exact ⟨rfl, rfl, rfl, trivial⟩) (by exact trivial) (by exact rfl) (by exact rfl) (by exact rfl), 0, by omega, rfl, rfl⟩ ?_
  rintro m σ ⟨i, hi, rfl, rfl⟩
  by_cases hlt : i < l.length
  case neg =>
    (refine LWP.seq <| LWP.seq <| LWP.region (by kernel_rfl) <| kmv rfl <| kmv rfl <| K.lenX rfl SliceT.h rfl .plain ?_; refine klt rfl rfl (decide_eq_false (by omega)) <| RunK.nil <| LWP.condF rfl ?_; refine LWP.exit <| LWP.seq <| LWP.region (by kernel_rfl) <| kas rfl <| RunK.nil <| LWP.ret ?_)
    exact ⟨[_], ⟨rfl, trivial⟩, rfl⟩
  obtain ⟨x, hx⟩ : ∃ x, l[i]? = some x := ⟨_, List.getElem?_eq_getElem hlt⟩
  obtain ⟨blk, off, arr, el, fr, hb1, hX, hsz, hcs, _⟩ := hM.at hx
  simp only [Option.some.injEq, Addr.mk.injEq] at hb1
  obtain ⟨rfl, rfl, _⟩ := hb1
  obtain ⟨ublk, uoff, uarr, uel, ufr, rfl, huX, husz, hucs, _⟩ := hin.at hx
  have hio : 0 + Int.toNat (i : Int) * 6 = 0 + i * 6 := by simp
  have hiu : uoff + Int.toNat (i : Int) * 6 = uoff + i * 6 := by simp
  have hadd : IntKind.i64.wrap ((i : Int) + 1) = ((i + 1 : Nat) : Int) := by rw [wrap_i64 (by omega)]; omega
  have qx := eqT_expr (o := x.op) (o' := x.op) (a := x.a) (a' := x.a) (b := x.b) (b' := x.b) (s := x.k.1) (s' := x.k.1) (h := x.k.2 / 18446744073709551616) (h' := x.k.2 / 18446744073709551616) (l := x.k.2 % 18446744073709551616) (l' := x.k.2 % 18446744073709551616) true (by simp)
  (refine LWP.seq <| LWP.seq <| LWP.region (by kernel_rfl) <| kmv rfl <| kmv rfl <| K.lenX rfl SliceT.h rfl .plain ?_; refine klt rfl rfl (decide_eq_true (by omega)) <| RunK.nil <| LWP.condT rfl ?_; refine LWP.skip ?_; refine LWP.seq <| LWP.block <| LWP.seq <| LWP.draws mixed (by kernel_rfl) <| kmv rfl <| kmv rfl <| K.indexX rfl rfl SliceT.h (by omega) hio .plain <| K.loadXagg rfl hX (by kernel_rfl) hsz hcs .plain <| kmv rfl <| kmv rfl <| K.indexX rfl rfl SliceT.h (by omega) hiu .plain <| K.loadXagg rfl huX (by kernel_rfl) husz hucs .plain <| K.aggEq (c := false) rfl rfl rfl rfl (by kernel_rfl) qx (.inr ⟨rfl, rfl⟩) .plain <| RunK.nil ?_; refine And.intro (by kernel_rfl) ?_; refine LWP.condF rfl ?_; refine LWP.skip ?_; refine LWP.region (by kernel_rfl) <| kmv rfl <| kad rfl rfl hadd <| kas rfl <| RunK.nil ?_)
  exact ⟨_, ⟨[(0, Lx (some ⟨ublk, uoff, none⟩) l.length cap), (7, Lx (some ⟨b1, 0, none⟩) l.length c1), (13, Ln .i64 (i + 1 : Nat))], [], Y⟩, by omega, Le.of (by exact ⟨rfl, rfl, rfl, trivial⟩) (by exact trivial) (by exact rfl) (by exact rfl) (by exact rfl), i + 1, by omega, rfl, rfl⟩
end Go.Proofs.YtimpjdbhalnofaaGreatDoor
end
section
namespace Go.Proofs.YtimpjdbhalnofaaGreatDoor
open Go Go.Lg Go.RowKit Go.ChangeShapes Go.WideShapes Go.Joins
set_option maxRecDepth 100000
theorem tab_of_laid11 {W : World} (h : laidMetH Tryz.prog [("math/bits.deBruijn32tab", Rows.laid_math_bits_deBruijn32tab), ("math/bits.deBruijn64tab", Rows.laid_math_bits_deBruijn64tab), ("internal/strconv.uint64pow10", Rows.laid_internal_strconv_uint64pow10)] W) : Lib.TabIs Tryz.prog W "internal/strconv.uint64pow10" .u64 Lib.pow10Tab := by
  rw [MakeChecks.laidMetH_plain _ _ _ (by kernel_rfl)] at h
  have h3 : laidMet Tryz.prog (("internal/strconv.uint64pow10", Lib.tabData .u64 Lib.pow10Tab) :: []) W := (h.tail).tail
  exact Lib.tabIs_of_head (g := 2) (t := 195) (e := 28) (n := 20) (by kernel_rfl) (by kernel_rfl) (by kernel_rfl) (by kernel_rfl) (by kernel_rfl) (by kernel_rfl) h3
theorem xtab11 {W : World} (h : Lib.TabIs Tryz.prog W "internal/strconv.uint64pow10" .u64 Lib.pow10Tab) : XTab (fun b => W.heap[b]?) := by
  intro w hX
  unfold Lib.TabIs World.var? at h ⊢
  have hg : Tryz.prog.globalNamed "internal/strconv.uint64pow10" = some 2 := by kernel_rfl
  rw [hg] at h ⊢
  simp only [Option.bind_some] at h ⊢
  cases e : W.heap[2]? with
  | none => rw [e] at h; cases h
  | some o => rw [hX _ _ e]; rw [e] at h; exact h
end Go.Proofs.YtimpjdbhalnofaaGreatDoor
end
section
namespace Go.Proofs.YtimpjdbhalnofaaGreatDoor
open Go Go.Lg Go.RowKit Go.ChangeShapes Go.WideShapes Go.Joins
set_option maxRecDepth 100000
theorem cellsI : Tryz.prog.cellsOf 30 = 3 := by kernel_rfl
section
variable {H : Type} {enc : TypeId × Value → H} {w : World} {base : Nat} {spare : Nat → Bool} {held : Bool}
theorem openI {r : Reach} {b0 : Nat} {v : Value} {d : DataW H} {p : List MemPlace} (hv : Value.okWide Tryz.prog w r b0 30 v) (h : DataW.Trod enc Tryz.prog w base spare held 30 v d p) :
    ∃ (b : Bool) (N : Int), In2 N ∧ v = .agg #[.bool b, .int .u64 (N / 18446744073709551616), .int .u64 (N % 18446744073709551616)] ∧ d = .agg [.lit (.bool b), .lit (.int .u64 (N / 18446744073709551616)), .lit (.int .u64 (N % 18446744073709551616))] ∧ p = [] ∧
      (∀ (w' : World) (base' : Nat) (spare' : Nat → Bool) (held' : Bool), DataW.Trod enc Tryz.prog w' base' spare' held' 30 v d []) := by
  obtain ⟨c0, c1, c2, y0, y1, y2, m, rfl, rfl, rfl, hy0, hy1, hy2⟩ := open_agg3 Tryz.underlying30 (by kernel_rfl) cellsI hv h
  obtain ⟨b, e0, rfl⟩ := DataW.trod_bool (by kernel_rfl) hy0
  obtain ⟨x, e1, rfl, wx⟩ := DataW.trod_int (k := .u64) (by kernel_rfl) hy1
  obtain ⟨y, e2, rfl, wy⟩ := DataW.trod_int (k := .u64) (by kernel_rfl) hy2
  simp at e0 e1 e2
  subst e0 e1 e2
  have bx := bounds_u64 wx
  have by' := bounds_u64 wy
  refine ⟨b, x * 18446744073709551616 + y, ⟨by omega, by omega⟩, ?_, ?_, rfl, ?_⟩
  · rw [show (x * 18446744073709551616 + y) / 18446744073709551616 = x by omega, show (x * 18446744073709551616 + y) % 18446744073709551616 = y by omega]
  · rw [show (x * 18446744073709551616 + y) / 18446744073709551616 = x by omega, show (x * 18446744073709551616 + y) % 18446744073709551616 = y by omega]
  · intro w' base' spare' held'
    exact shut_agg3 (y0 := (.lit (.bool b), [])) (y1 := (.lit (.int .u64 x), [])) (y2 := (.lit (.int .u64 y), [])) Tryz.underlying30 (by kernel_rfl) cellsI
      ⟨1, by simp [DataW.trod, Tryz.underlying4]⟩ ⟨1, by simp [DataW.trod, Tryz.underlying28, wx]⟩ ⟨1, by simp [DataW.trod, Tryz.underlying28, wy]⟩
end
end Go.Proofs.YtimpjdbhalnofaaGreatDoor
end
section
namespace Go.Proofs.YtimpjdbhalnofaaGreatDoor
open Go Go.Lg Go.Lg.Fml Go.Lg.Fld Go.Lg.Arith
set_option maxRecDepth 100000
theorem evX_in2 {l : List Ins} {fs : List (List Nm)} {at_ : Int} {v : Nm} (hl : ∀ x ∈ l, In2 x.k.2) (hf : ∀ r ∈ fs, ∀ u ∈ r, In2 u.2) (hat : at_ < 9223372036854775808) (h : evX l fs at_ = .ok v) : In2 v.2 := by
  by_cases hz : chkX l = 0
  · obtain ⟨t, ht, e⟩ := parse (chkX_zero hz).2
    rw [evX_tree hz ht e] at h
    cases hev : t.ev (oneX fs at_) with
    | error e' => rw [hev] at h; cases h
    | ok u =>
      rw [hev] at h
      simp only at h
      split at h
      · cases h; exact tree_in2 hf hat (fun x hx => hl x (by rw [← e]; exact hx)) hev
      · cases h
  · rw [show evX l fs at_ = .error (chkX l) from if_neg hz] at h; cases h
theorem exV_in2 {l : List Ins} {fs : List (List Nm)} {at_ : Int} (hl : ∀ x ∈ l, In2 x.k.2) (hf : ∀ r ∈ fs, ∀ u ∈ r, In2 u.2) (hat : at_ < 9223372036854775808) : In2 (exV (evX l fs at_)).2 := by
  cases h : evX l fs at_ with
  | error e => show 0 ≤ (0 : Int) ∧ (0 : Int) < _; omega
  | ok v => exact evX_in2 hl hf hat h
variable (X : Nat → Option Obj)
end Go.Proofs.YtimpjdbhalnofaaGreatDoor
end
section
namespace Go.Proofs.YtimpjdbhalnofaaGreatDoor
open Go Go.Lg Go.Lg.Fld
set_option maxRecDepth 100000
abbrev Ext (X Y : Nat → Option Obj) : Prop := ∀ b o, X b = some o → Y b = some o
theorem OneIn.more {X Y : Nat → Option Obj} (hXY : Ext X Y) {ad : Option Addr} {vs : List Value} (h : OneIn X ad vs) : OneIn Y ad vs := fun i v hi => by
  obtain ⟨blk, off, arr, el, fr, h1, h2, h3⟩ := h i v hi
  exact ⟨blk, off, arr, el, fr, h1, hXY _ _ h2, h3⟩
theorem row_cell {arr : Array Value} {p sz : Nat} {r : List Value} (h : (arr.toList.drop p).take sz = r) {j : Nat} (hj : j < sz) : arr[p + j]? = r[j]? := by
  rw [← h, List.getElem?_take, if_pos hj, List.getElem?_drop, Array.getElem?_toList]
variable (X : Nat → Option Obj)
end Go.Proofs.YtimpjdbhalnofaaGreatDoor
end
section
namespace Go.Proofs.YtimpjdbhalnofaaGreatDoor
open Go Go.Lg Go.Lg.Fld
set_option maxRecDepth 100000
variable (X : Nat → Option Obj)
end Go.Proofs.YtimpjdbhalnofaaGreatDoor
end
section
namespace Go.Proofs.YtimpjdbhalnofaaGreatDoor
open Go Go.Lg Go.Lg.Fld
set_option maxRecDepth 100000
variable (X : Nat → Option Obj)
end Go.Proofs.YtimpjdbhalnofaaGreatDoor
end
section
namespace Go.Proofs.YtimpjdbhalnofaaGreatDoor
open Go Go.Lg Go.Lg.Fld
set_option maxRecDepth 100000
variable (X : Nat → Option Obj)
end Go.Proofs.YtimpjdbhalnofaaGreatDoor
end
section
namespace Go.Proofs.YtimpjdbhalnofaaGreatDoor
open Go Go.Lg Go.Lg.Fld
set_option maxRecDepth 100000
theorem reads_rows {X : Nat → Option Obj} {ad : Option Addr} {sz : Nat} {rows : List (List Value)} (hsz : 1 ≤ sz) (hl : ∀ r ∈ rows, r.length = sz) (h : Go.Lg.RowsIn X ad sz rows) : ReadsX X ad rows.flatten := ⟨fun j u hj => by
  have hfl : rows.flatten.length = rows.length * sz := by
    clear h hj
    induction rows with
    | nil => simp
    | cons r t ih =>
      simp only [List.flatten_cons, List.length_append, List.length_cons, ih (fun x hx => hl x (by simp [hx])), hl r (by simp)]
      rw [Nat.add_mul, Nat.one_mul]; omega
  have hjl := (List.getElem?_eq_some_iff.1 hj).1
  have hi : j / sz < rows.length := Nat.div_lt_of_lt_mul (by rw [Nat.mul_comm]; omega)
  obtain ⟨r, hr⟩ : ∃ r, rows[j / sz]? = some r := ⟨_, List.getElem?_eq_getElem hi⟩
  obtain ⟨h1, h2⟩ := flat_row hl (sp := []) hr
  rw [List.append_nil] at h1 h2
  obtain ⟨blk, off, arr, el, fr, e1, e2, e3, e4⟩ := h _ r hr
  have hq : j % sz < sz := Nat.mod_lt _ (by omega)
  have hje : j = j / sz * sz + j % sz := by rw [Nat.mul_comm]; exact (Nat.div_add_mod j sz).symm
  refine ⟨blk, off, arr, el, fr, e1, e2, ?_⟩
  have h3 := row_cell e4 hq
  have h4 : r[j % sz]? = some u := by
    rw [← h2, List.getElem?_take, if_pos hq, List.getElem?_drop, ← hje]; exact hj
  rw [h4] at h3
  rw [hje, ← Nat.add_assoc]; exact h3⟩
end Go.Proofs.YtimpjdbhalnofaaGreatDoor
end
section
namespace Go.Proofs.YtimpjdbhalnofaaGreatDoor
open Go Go.Lg Go.Lg.Fml Go.Lg.Fld Go.Lg.Arith
set_option maxRecDepth 100000
def RowV (Y : Nat → Option Obj) (vs : List Value) (fs : List (List Nm)) : Prop := vs.length = fs.length ∧ ∀ (i : Nat) (r : List Nm), fs[i]? = some r → ∃ (ad : Option Addr) (cap : Nat), vs[i]? = some (.slice ad r.length cap) ∧ NumsIn Y ad r
theorem RowV.mono {Y Z : Nat → Option Obj} {vs : List Value} {fs : List (List Nm)} (h : RowV Y vs fs) (hm : ∀ b o, Y b = some o → Z b = some o) : RowV Z vs fs := ⟨h.1, fun i r hr => by
  obtain ⟨ad, cap, h1, h2⟩ := h.2 i r hr
  exact ⟨ad, cap, h1, ⟨h2.rows.mono hm, h2.in2⟩⟩⟩
theorem RowV.nil {Y : Nat → Option Obj} : RowV Y [] [] := ⟨rfl, fun i r h => by simp at h⟩
theorem RowV.append {Y : Nat → Option Obj} {vs ws : List Value} {fs gs : List (List Nm)} (h1 : RowV Y vs fs) (h2 : RowV Y ws gs) : RowV Y (vs ++ ws) (fs ++ gs) := by
  refine ⟨by rw [List.length_append, List.length_append, h1.1, h2.1], fun i q hq => ?_⟩
  by_cases hi : i < fs.length
  · rw [List.getElem?_append_left hi] at hq
    obtain ⟨ad, cap, g1, g2⟩ := h1.2 i q hq
    exact ⟨ad, cap, by rw [List.getElem?_append_left (by rw [h1.1]; exact hi)]; exact g1, g2⟩
  · rw [List.getElem?_append_right (by omega)] at hq
    obtain ⟨ad, cap, g1, g2⟩ := h2.2 _ q hq
    exact ⟨ad, cap, by rw [List.getElem?_append_right (by rw [h1.1]; omega), h1.1]; exact g1, g2⟩
theorem RowV.one {Y : Nat → Option Obj} {ad : Option Addr} {cap : Nat} {r : List Nm} (hN : NumsIn Y ad r) : RowV Y [.slice ad r.length cap] [r] := ⟨rfl, fun i q hq => by
  match i, hq with
  | 0, hq =>
    simp only [List.getElem?_cons_zero, Option.some.injEq] at hq
    subst hq
    exact ⟨ad, cap, rfl, hN⟩
  | _ + 1, hq => simp at hq⟩
theorem RowV.frozen {Y : Nat → Option Obj} {vs : List Value} {fs : List (List Nm)} {blk : Nat} {arr : Array Value} {el : TypeId} {fr : Nat × Nat} (h : RowV Y vs fs) (hY : Y blk = some (.cells arr el fr)) (hsp : ∃ sp, arr.toList = vs ++ sp) : FssIn Y (some ⟨blk, 0, none⟩) fs := ⟨fun i r hr => by
  obtain ⟨ad, cap, h1, h2⟩ := h.2 i r hr
  obtain ⟨sp, hs⟩ := hsp
  have hi := (List.getElem?_eq_some_iff.1 h1).1
  have h3 : arr[0 + i]? = some (.slice ad r.length cap) := by rw [Nat.zero_add, ← Array.getElem?_toList, hs, List.getElem?_append_left hi]; exact h1
  have h4 := (Array.getElem?_eq_some_iff.1 h3).1
  exact ⟨blk, 0, arr, el, fr, ad, cap, rfl, hY, by omega, h3, h2⟩⟩
theorem nmsV_cons (y : Nm) (t : List Nm) : (nmsV (y :: t)).map CV.val = cI y.1 y.2 ++ (nmsV t).map CV.val := by simp [nmsV, nmV]
theorem nmsV_splice : ∀ (zs : List Nm) (k : Nat) (z : Nm), k < zs.length → splice ((nmsV zs).map CV.val) (k * 3) (cI z.1 z.2) = (nmsV (zs.set k z)).map CV.val
  | [], k, z, h => by simp at h
  | y :: t, 0, z, _ => by
    show splice ((nmsV (y :: t)).map CV.val) (0 * 3) (cI z.1 z.2) = (nmsV (z :: t)).map CV.val
    rw [nmsV_cons, nmsV_cons]
    rfl
  | y :: t, k + 1, z, h => by
    have ih := nmsV_splice t k z (by simpa using h)
    show splice ((nmsV (y :: t)).map CV.val) ((k + 1) * 3) (cI z.1 z.2) = (nmsV (y :: t.set k z)).map CV.val
    rw [nmsV_cons, nmsV_cons, ← ih]
    unfold splice
    rw [show (k + 1) * 3 = 3 + k * 3 by omega]
    have l3 : (cI y.1 y.2).length = 3 := rfl
    have l3' : (cI z.1 z.2).length = 3 := rfl
    rw [l3', List.take_append, List.drop_append, l3, List.take_of_length_le (by rw [l3]; omega), List.drop_of_length_le (by rw [l3]; omega)]
    rw [show 3 + k * 3 - 3 = k * 3 by omega, show 3 + k * 3 + 3 - 3 = k * 3 + 3 by omega]
    simp only [List.append_assoc, List.nil_append]
theorem nmsV_one (r : List Nm) : ∀ u ∈ nmsV r, u.oneCell' = true := fun u hu => by
  unfold nmsV at hu
  rw [List.mem_flatten] at hu
  obtain ⟨q, hq, hu⟩ := hu
  obtain ⟨n, _, rfl⟩ := List.mem_map.1 hq
  unfold nmV at hu
  simp only [List.mem_cons, List.not_mem_nil, or_false] at hu
  rcases hu with rfl | rfl | rfl <;> rfl
theorem nums_reads2 {X : Nat → Option Obj} {ad : Option Addr} {r : List Nm} (h : NumsIn X ad r) : ReadsX X ad (nmsV r) := reads_rows (by decide) (fun q hq => by obtain ⟨x, _, rfl⟩ := List.mem_map.1 hq; rfl) h.rows
theorem nums_none2 {X : Nat → Option Obj} {r : List Nm} (h : NumsIn X none r) : r = [] := by
  cases r with
  | nil => rfl
  | cons u t =>
    obtain ⟨b, N⟩ := u
    obtain ⟨_, blk, off, arr, el, fr, h1, _⟩ := h.at (i := 0) (b := b) (N := N) rfl
    cases h1
theorem setE_split {fs : List (List Nm)} {f k : Nat} {v : Nm} {r : List Nm} (h : fs[f]? = some r) : setE fs f k v = fs.take f ++ ([r.set k v] ++ fs.drop (f + 1)) := by
  unfold setE
  have hd : fs.getD f [] = r := by rw [List.getD_eq_getElem?_getD, h]; rfl
  rw [hd, List.set_eq_take_append_cons_drop, if_pos (List.getElem?_eq_some_iff.1 h).1]
  rfl
theorem drop_take_snoc {α : Type} {l : List α} {i f : Nat} {x : α} (h : l[i]? = some x) (hf : f < i) : (l.take (i + 1)).drop (f + 1) = (l.take i).drop (f + 1) ++ [x] := by
  have hi := (List.getElem?_eq_some_iff.1 h).1
  rw [take_snoc h, List.drop_append, List.length_take, show f + 1 - min i l.length = 0 by omega]
  rfl
variable (X : Nat → Option Obj)
abbrev ehSt (n cap m fcap : Nat) (ad fad : Option Addr) (at_ f k : Int) (xb : Bool) (xN : Int) (wb : Bool) (wN e : Int) (ms : List (Nat × LV)) (mb : List (Nat × Option Box)) (Y : Nat → Option Obj) : St :=
  ⟨ms ++ [(0, Lx ad n cap), (1, Lx fad m fcap), (2, Ln .i64 at_), (3, Ln .i64 f), (4, Ln .i64 k), (11, Lp 11), (14, Lp 14), (15, Ln .i64 e)], mb ++ [(11, some ⟨30, cI xb xN, false⟩), (14, some ⟨30, cI wb wN, false⟩)], Y⟩
set_option maxHeartbeats 12800000 in
theorem ExprHangs_spec (hTab : XTab X) (l : List Ins) (ad : Option Addr) (cap : Nat) (hin : InsIn X ad l) (hl : l.length < 9223372036854775808) (fad : Option Addr) (fcap : Nat) (fs : List (List Nm)) (hfs : FssIn X fad fs) (hfl : fs.length < 9223372036854775808) (hrb : ∀ r ∈ fs, r.length < 9223372036854775808) (at_ f k : Int) (hat : -9223372036854775808 ≤ at_ ∧ at_ < 9223372036854775808) (xb : Bool) (xN : Int) (hx2 : In2 xN) :
    PSpec Tryz.prog X 6 [Lx ad l.length cap, Lx fad fs.length fcap, Ln .i64 at_, Ln .i64 f, Ln .i64 k, LI xb xN] (Lb true) := by
  have hW := awake11_spec X hTab
  have hG := great11_spec X l ad cap fad fcap fs hfs hl hfl hrb
  have hf2 : ∀ r ∈ fs, ∀ u ∈ r, In2 u.2 := fun r hr u hu => by
    obtain ⟨i, hi, e⟩ := List.getElem_of_mem hr
    obtain ⟨_, _, _, _, _, _, _, _, _, _, _, hN⟩ := hfs.at_ i r (by rw [List.getElem?_eq_getElem hi, e])
    exact hN.in2 u hu
  refine PSpec.intro Tryz.func6 rfl (by kernel_rfl) rfl rfl ?_
  intro C
  cases hg : grt l fs with
  | true =>
    rw [hg] at hG
    (refine LWP.seq <| LWP.region (by kernel_rfl) <| K.box rfl rfl rfl .plain <| kas rfl <| RunK.nil <| LWP.seq <| LWP.seq <| LWP.region (by kernel_rfl) <| kca rfl rfl (hW) <| K.not rfl rfl .plain <| RunK.nil <| LWP.condF rfl ?_; refine LWP.skip ?_; refine LWP.seq <| LWP.seq <| LWP.region (by kernel_rfl) <| kmv rfl <| kmv rfl <| kca rfl rfl (hG) <| RunK.nil <| LWP.condT rfl ?_; refine LWP.seq <| LWP.region (by kernel_rfl) <| kas rfl <| RunK.nil <| LWP.ret ?_)
    exact ⟨[_], ⟨rfl, trivial⟩, rfl⟩
  | false =>
  rw [hg] at hG
  obtain ⟨h80, h12, h20⟩ := grt_false hg
  have hE1 := gEval X l ad cap hin (by omega) fad fcap fs hfs (by omega) (fun r hr => by have := h20 r hr; omega) hf2 at_ hat
  have hK : ∀ r : Except Int Nm, r = evX l fs at_ → exR r = .tup [SI (exV (evX l fs at_)).1 (exV (evX l fs at_)).2, Sn .i64 (exE (evX l fs at_))] := fun r h => by rw [h]; exact exR_eq _
  rw [hK _ rfl] at hE1
  have hU := gUses X l ad cap hin (by omega)
  have hHang := fun (fn kn : Nat) (h : ∀ u ∈ usesX l, ¬ (u.a = (fn : Nat) ∧ (u.op = 2 ∧ u.b = (kn : Nat) ∨ u.op = 3 ∧ at_ = (kn : Nat)))) => hK _ (evX_hangs (fs := fs) (v := (xb, xN)) h)
  clear hK
  generalize exV (evX l fs at_) = w at *
  generalize exE (evX l fs at_) = e at *
  obtain ⟨wb, wN⟩ := w
  have q := eqI (b := wb) (b' := wb) (h := wN / 18446744073709551616) (h' := wN / 18446744073709551616) (l := wN % 18446744073709551616) (l' := wN % 18446744073709551616) true (by simp)
  (refine LWP.seq <| LWP.region (by kernel_rfl) <| K.box rfl rfl rfl .plain <| kas rfl <| RunK.nil <| LWP.seq <| LWP.seq <| LWP.region (by kernel_rfl) <| kca rfl rfl (hW) <| K.not rfl rfl .plain <| RunK.nil <| LWP.condF rfl ?_; refine LWP.skip ?_; refine LWP.seq <| LWP.seq <| LWP.region (by kernel_rfl) <| kmv rfl <| kmv rfl <| kca rfl rfl (hG) <| RunK.nil <| LWP.condF rfl ?_; refine LWP.skip ?_; refine LWP.seq <| LWP.region (by kernel_rfl) <| kmv rfl <| kmv rfl <| K.build rfl rfl (by exact rfl) (by exact nl2 rfl rfl rfl) .plain ?_; refine K.alloc rfl .plain ?_; refine K.storeAll rfl rfl rfl rfl rfl rfl .plain ?_; refine RunK.nil <| LWP.seq <| LWP.region (by kernel_rfl) <| kmv rfl <| K.loadAll rfl rfl rfl .plain ?_; refine kca rfl rfl hE1 <| kmv rfl <| kex rfl rfl <| kex rfl rfl <| K.alloc rfl .plain ?_; refine K.storeAll rfl rfl rfl rfl rfl rfl .plain ?_; refine kas rfl <| RunK.nil <| LWP.seq <| LWP.region (by kernel_rfl) <| kmv rfl <| K.loadAll rfl rfl rfl .plain ?_; refine kca rfl rfl hE1 <| kmv rfl <| kex rfl rfl <| kex rfl rfl <| K.alloc rfl .plain ?_; refine K.storeAll rfl rfl rfl rfl rfl rfl .plain ?_; refine kas rfl <| RunK.nil <| LWP.seq <| LWP.seq <| LWP.region (by kernel_rfl) <| K.loadAll rfl rfl rfl .plain ?_; refine K.loadAll rfl rfl rfl .plain ?_; refine K.aggEq (c := false) rfl rfl rfl rfl (by kernel_rfl) q (.inr ⟨rfl, rfl⟩) .plain <| kmv rfl <| gmv rfl rfl rfl <| gmv rfl rfl rfl <| K.neq rfl rfl (bne_eq_false_iff_eq.2 rfl) (.taken rfl rfl) ?_; refine kpf rfl rfl <| RunK.nil <| LWP.condF rfl ?_; refine LWP.skip ?_; refine LWP.seq <| LWP.seq ?_)
  refine LWP.le (σ' := ehSt l.length cap fs.length fcap ad fad at_ f k xb xN wb wN e [] [] X) (Le.of (by exact ⟨rfl, rfl, rfl, rfl, rfl, rfl, rfl, rfl, trivial⟩) (by exact ⟨rfl, rfl, trivial⟩) (by exact rfl) (by exact rfl) (by repeat' (first | refine all_cons_true ?_ ?_ | rfl | exact bytes_inUse | exact vals_inUse | exact mid_inUse rfl))) ?_
  by_cases f0 : f < 0
  · (refine LWP.region (by kernel_rfl) <| kmv rfl <| klt rfl rfl (decide_eq_true f0) <| kmv rfl <| RunK.passed rfl rfl rfl <| RunK.passed rfl rfl rfl <| RunK.passed rfl rfl rfl <| RunK.passed rfl rfl rfl <| kpt rfl rfl <| kmv rfl <| RunK.passed rfl rfl rfl <| RunK.passed rfl rfl rfl <| kpt rfl rfl <| kmv rfl ?_; refine RunK.passed rfl rfl rfl <| RunK.passed rfl rfl rfl <| RunK.passed rfl rfl rfl <| RunK.passed rfl rfl rfl <| RunK.passed rfl rfl rfl <| RunK.passed rfl rfl rfl <| RunK.passed rfl rfl rfl <| kpt rfl rfl <| RunK.nil <| LWP.condT rfl ?_; refine LWP.seq <| LWP.region (by kernel_rfl) <| kas rfl <| RunK.nil <| LWP.ret ?_)
    exact ⟨[_], ⟨rfl, trivial⟩, rfl⟩
  obtain ⟨fn, rfl⟩ : ∃ n : Nat, f = (n : Nat) := ⟨f.toNat, by omega⟩
  by_cases f1 : fs.length ≤ fn
  · (refine LWP.region (by kernel_rfl) <| kmv rfl <| klt rfl rfl (decide_eq_false f0) <| kmv rfl <| gmv rfl rfl rfl <| gmv rfl rfl rfl <| K.lenX rfl SliceT.h rfl (.taken rfl rfl) ?_; refine K.geq rfl rfl (decide_eq_true (by omega)) (.taken rfl rfl) ?_; refine kpf rfl rfl <| kmv rfl <| RunK.passed rfl rfl rfl <| RunK.passed rfl rfl rfl <| kpt rfl rfl <| kmv rfl <| RunK.passed rfl rfl rfl <| RunK.passed rfl rfl rfl <| RunK.passed rfl rfl rfl <| RunK.passed rfl rfl rfl <| RunK.passed rfl rfl rfl <| RunK.passed rfl rfl rfl <| RunK.passed rfl rfl rfl <| kpt rfl rfl ?_; refine RunK.nil <| LWP.condT rfl ?_; refine LWP.seq <| LWP.region (by kernel_rfl) <| kas rfl <| RunK.nil <| LWP.ret ?_)
    exact ⟨[_], ⟨rfl, trivial⟩, rfl⟩
  by_cases k0 : k < 0
  · (refine LWP.region (by kernel_rfl) <| kmv rfl <| klt rfl rfl (decide_eq_false f0) <| kmv rfl <| gmv rfl rfl rfl <| gmv rfl rfl rfl <| K.lenX rfl SliceT.h rfl (.taken rfl rfl) ?_; refine K.geq rfl rfl (decide_eq_false (by omega)) (.taken rfl rfl) ?_; refine kpf rfl rfl <| kmv rfl <| gmv rfl rfl rfl <| K.lss rfl rfl (decide_eq_true k0) (.taken rfl rfl) ?_; refine kpf rfl rfl <| kmv rfl <| RunK.passed rfl rfl rfl <| RunK.passed rfl rfl rfl <| RunK.passed rfl rfl rfl <| RunK.passed rfl rfl rfl <| RunK.passed rfl rfl rfl <| RunK.passed rfl rfl rfl <| RunK.passed rfl rfl rfl <| kpt rfl rfl <| RunK.nil <| LWP.condT rfl ?_; refine LWP.seq <| LWP.region (by kernel_rfl) <| kas rfl <| RunK.nil <| LWP.ret ?_)
    exact ⟨[_], ⟨rfl, trivial⟩, rfl⟩
  obtain ⟨kn, rfl⟩ : ∃ n : Nat, k = (n : Nat) := ⟨k.toNat, by omega⟩
  obtain ⟨rf, hrf⟩ : ∃ r, fs[fn]? = some r := ⟨_, List.getElem?_eq_getElem (by omega)⟩
  have hrf20 := h20 rf (List.mem_of_getElem? hrf)
  have hrep : ∃ (blk off : Nat), fad = some ⟨blk, off, none⟩ := by
    obtain ⟨blk, off, _, _, _, _, _, h, _⟩ := hfs.at_ _ rf hrf
    exact ⟨blk, off, h⟩
  obtain ⟨fblk, foff, rfl⟩ := hrep
  obtain ⟨blk, off, arr, el, fr, vad, vcap, he, hX, hsz, hc, hN⟩ := hfs.at_ _ rf hrf
  simp only [Option.some.injEq, Addr.mk.injEq, and_true] at he
  obtain ⟨rfl, rfl⟩ := he
  have hio : foff + Int.toNat (fn : Int) * 1 = foff + fn := by simp
  by_cases k1 : rf.length ≤ kn
  · (refine LWP.region (by kernel_rfl) <| kmv rfl <| klt rfl rfl (decide_eq_false f0) <| kmv rfl <| gmv rfl rfl rfl <| gmv rfl rfl rfl <| K.lenX rfl SliceT.h rfl (.taken rfl rfl) ?_; refine K.geq rfl rfl (decide_eq_false (by omega)) (.taken rfl rfl) ?_; refine kpf rfl rfl <| kmv rfl <| gmv rfl rfl rfl <| K.lss rfl rfl (decide_eq_false k0) (.taken rfl rfl) ?_; refine kpf rfl rfl <| kmv rfl <| gmv rfl rfl rfl <| gmv rfl rfl rfl <| gmv rfl rfl rfl <| K.indexX rfl rfl SliceT.h (by omega) hio (.taken rfl rfl) ?_; refine K.loadX rfl hX rfl hc (.taken rfl rfl) ?_; refine K.lenX rfl SliceT.h rfl (.taken rfl rfl) ?_; refine K.geq rfl rfl (decide_eq_true (by omega)) (.taken rfl rfl) ?_; refine kpf rfl rfl <| RunK.nil <| LWP.condT rfl ?_; refine LWP.seq <| LWP.region (by kernel_rfl) <| kas rfl <| RunK.nil <| LWP.ret ?_)
    exact ⟨[_], ⟨rfl, trivial⟩, rfl⟩
  (refine LWP.region (by kernel_rfl) <| kmv rfl <| klt rfl rfl (decide_eq_false f0) <| kmv rfl <| gmv rfl rfl rfl <| gmv rfl rfl rfl <| K.lenX rfl SliceT.h rfl (.taken rfl rfl) ?_; refine K.geq rfl rfl (decide_eq_false (by omega)) (.taken rfl rfl) ?_; refine kpf rfl rfl <| kmv rfl <| gmv rfl rfl rfl <| K.lss rfl rfl (decide_eq_false k0) (.taken rfl rfl) ?_; refine kpf rfl rfl <| kmv rfl <| gmv rfl rfl rfl <| gmv rfl rfl rfl <| gmv rfl rfl rfl <| K.indexX rfl rfl SliceT.h (by omega) hio (.taken rfl rfl) ?_; refine K.loadX rfl hX rfl hc (.taken rfl rfl) ?_; refine K.lenX rfl SliceT.h rfl (.taken rfl rfl) ?_; refine K.geq rfl rfl (decide_eq_false (by omega)) (.taken rfl rfl) ?_; refine kpf rfl rfl <| RunK.nil <| LWP.condF rfl ?_; refine LWP.skip ?_; refine LWP.seq ?_)
  clear hX hc hsz
  repeat refine LWP.seq ?_
  refine LWP.meetL (fun σ => ∃ (Z : Nat → Option Obj) (ud : Option Addr) (uc : Nat), (∀ b o, X b = some o → Z b = some o) ∧ InsIn Z ud (usesX l) ∧ σ = ehSt l.length cap fs.length fcap ad (some ⟨fblk, foff, none⟩) at_ (fn : Nat) (kn : Nat) xb xN wb wN e [(18, Lx ud (usesX l).length uc)] [] Z) ?_ ?_
  · rcases hU with ⟨h0, p⟩ | p
    · (refine LWP.region (by kernel_rfl) <| kmv rfl <| K.callM [] [] (p) rfl rfl (by exact trivial) rfl rfl rfl rfl rfl (by exact .nil) .plain <| kas rfl <| RunK.nil ?_)
      exact Leads.here (σ' := ehSt l.length cap fs.length fcap ad (some ⟨fblk, foff, none⟩) at_ (fn : Nat) (kn : Nat) xb xN wb wN e [(18, Lx none 0 0)] [] X) (Le.of (by exact ⟨rfl, rfl, rfl, rfl, rfl, rfl, rfl, rfl, rfl, trivial⟩) (by exact ⟨rfl, rfl, trivial⟩) (by exact rfl) (by exact rfl) (by repeat' (first | refine all_cons_true ?_ ?_ | rfl | exact bytes_inUse | exact vals_inUse | exact mid_inUse rfl))) ⟨X, none, 0, fun _ _ h => h, ⟨fun i r hr => by rw [h0] at hr; simp at hr, fun x hx => by rw [h0] at hx; cases hx⟩, by rw [h0]; rfl⟩
    · (refine LWP.region (by kernel_rfl) <| kmv rfl <| K.callMp [(1000001, 600)] (.sv (.one (.slc 600 0 (usesX l).length 6))) [(600, some ⟨44, (inssV (usesX l)).map .val, true⟩)] (p) rfl rfl (by exact trivial) rfl rfl rfl rfl rfl (by exact (.box rfl (Box.ren_vals _ _ _ _) .nil)) .plain <| kas rfl <| RunK.nil ?_)
      refine Leads.le (σ' := ⟨[(18, .sv (.one (.slc 600 0 (usesX l).length 6))), (0, Lx ad l.length cap), (1, Lx (some ⟨fblk, foff, none⟩) fs.length fcap), (2, Ln .i64 at_), (3, Ln .i64 (fn : Nat)), (4, Ln .i64 (kn : Nat)), (11, Lp 11), (14, Lp 14), (15, Ln .i64 e)], [(600, some ⟨44, (inssV (usesX l)).map .val, true⟩), (11, some ⟨30, cI xb xN, false⟩), (14, some ⟨30, cI wb wN, false⟩)], X⟩) (Le.of (by exact ⟨rfl, rfl, rfl, rfl, rfl, rfl, rfl, rfl, rfl, trivial⟩) (by exact ⟨rfl, rfl, rfl, trivial⟩) (by exact rfl) (by exact rfl) (by repeat' (first | refine all_cons_true ?_ ?_ | rfl | exact bytes_inUse | exact vals_inUse | exact mid_inUse rfl))) ?_
      refine Leads.freeze rfl rfl rfl fun b2 c2 a2 f2 hn2 _ _ _ hsp2 => ?_
      exact Leads.le (Le.of (by exact ⟨rfl, rfl, rfl, rfl, rfl, rfl, rfl, rfl, rfl, trivial⟩) (by exact ⟨rfl, rfl, trivial⟩) (by exact rfl) (by exact rfl) (by repeat' (first | refine all_cons_true ?_ ?_ | rfl | exact bytes_inUse | exact vals_inUse | exact mid_inUse rfl))) (Leads.done ⟨_, some ⟨b2, 0, none⟩, c2, withBlock_old hn2, ins_in (withBlock_at _ _ _) (fun x hx => hin.small x (List.mem_filter.1 hx).1) hsp2, rfl⟩)
  rintro σ ⟨Z, ud, uc, hZ, hu, rfl⟩
  have hul : (usesX l).length ≤ l.length := List.length_filter_le _ _
  (refine LWP.seq <| LWP.seq <| LWP.region (by kernel_rfl) <| kas rfl <| RunK.nil <| LWP.block ?_)
  refine LWP.loop (fun m σ => ∃ i : Nat, i ≤ (usesX l).length ∧ m = (usesX l).length - i ∧ (∀ u ∈ (usesX l).take i, ¬ (u.a = (fn : Nat) ∧ (u.op = 2 ∧ u.b = (kn : Nat) ∨ u.op = 3 ∧ at_ = (kn : Nat)))) ∧ σ = ehSt l.length cap fs.length fcap ad (some ⟨fblk, foff, none⟩) at_ (fn : Nat) (kn : Nat) xb xN wb wN e [(18, Lx ud (usesX l).length uc), (19, Ln .i64 (i : Nat))] [] Z) (usesX l).length
    ⟨ehSt l.length cap fs.length fcap ad (some ⟨fblk, foff, none⟩) at_ (fn : Nat) (kn : Nat) xb xN wb wN e [(18, Lx ud (usesX l).length uc), (19, Ln .i64 (0 : Nat))] [] Z, Le.of (by exact ⟨rfl, rfl, rfl, rfl, rfl, rfl, rfl, rfl, rfl, rfl, trivial⟩) (by exact ⟨rfl, rfl, trivial⟩) (by exact rfl) (by exact rfl) (by repeat' (first | refine all_cons_true ?_ ?_ | rfl | exact bytes_inUse | exact vals_inUse | exact mid_inUse rfl)), 0, by omega, rfl, fun u h => by simp at h, rfl⟩ ?_
  rintro m σ ⟨i, hi, rfl, hpre, rfl⟩
  by_cases hlt : i < (usesX l).length
  · obtain ⟨u, hui⟩ : ∃ u, (usesX l)[i]? = some u := ⟨_, List.getElem?_eq_getElem hlt⟩
    obtain ⟨blk, off, arr, el, fr, rfl, hX, c0, c1, c2, _, _⟩ := hu.parts hui
    have hio : off + Int.toNat (i : Int) * 6 = off + i * 6 := by simp
    have hadd : IntKind.i64.wrap ((i : Int) + 1) = ((i + 1 : Nat) : Int) := by rw [wrap_i64 (by omega)]; omega
    have next : ¬ (u.a = (fn : Nat) ∧ (u.op = 2 ∧ u.b = (kn : Nat) ∨ u.op = 3 ∧ at_ = (kn : Nat))) → ∀ v ∈ (usesX l).take (i + 1), ¬ (v.a = (fn : Nat) ∧ (v.op = 2 ∧ v.b = (kn : Nat) ∨ v.op = 3 ∧ at_ = (kn : Nat))) := fun h v hv => by
      rw [take_snoc hui] at hv
      rcases List.mem_append.1 hv with hv | hv
      · exact hpre v hv
      · rw [List.mem_singleton.1 hv]; exact h
    by_cases ha : u.a = (fn : Nat)
    case neg =>
      (refine LWP.seq <| LWP.seq <| LWP.region (by kernel_rfl) <| kmv rfl <| kmv rfl <| K.lenX rfl SliceT.h rfl .plain ?_; refine klt rfl rfl (decide_eq_true (by omega)) <| RunK.nil <| LWP.condT rfl ?_; refine LWP.skip ?_; refine LWP.seq <| LWP.block <| LWP.seq <| LWP.region (by kernel_rfl) <| kmv rfl <| kmv rfl <| K.indexX rfl rfl SliceT.h (by omega) hio .plain <| K.fieldAddrX rfl rfl .plain ?_; refine K.loadX rfl hX rfl c1 .plain <| kmv rfl <| keq rfl rfl (beq_eq_false_iff_ne.2 ha) <| kmv rfl <| RunK.passed rfl rfl rfl <| RunK.passed rfl rfl rfl <| RunK.passed rfl rfl rfl <| RunK.passed rfl rfl rfl <| RunK.passed rfl rfl rfl <| RunK.passed rfl rfl rfl <| RunK.passed rfl rfl rfl <| RunK.passedU rfl rfl <| RunK.passedU rfl rfl <| RunK.passedU rfl rfl ?_; refine RunK.passedU rfl rfl <| RunK.passedU rfl rfl <| RunK.passedU rfl rfl <| RunK.passedU rfl rfl <| RunK.passed rfl rfl rfl <| RunK.passed rfl rfl rfl <| RunK.passedU rfl rfl <| RunK.passedU rfl rfl <| RunK.passedU rfl rfl <| RunK.passedU rfl rfl <| RunK.passedU rfl rfl <| RunK.passedU rfl rfl <| RunK.passedU rfl rfl <| RunK.passedU rfl rfl ?_; refine RunK.passedU rfl rfl <| RunK.passedU rfl rfl <| RunK.passedU rfl rfl <| RunK.passed rfl rfl rfl <| kpf rfl rfl <| RunK.nil <| LWP.condF rfl ?_; refine LWP.skip ?_; refine LWP.region (by kernel_rfl) <| kmv rfl <| kad rfl rfl hadd <| kas rfl <| RunK.nil ?_)
      exact ⟨_, ehSt l.length cap fs.length fcap ad (some ⟨fblk, foff, none⟩) at_ (fn : Nat) (kn : Nat) xb xN wb wN e [(18, Lx (some ⟨blk, off, none⟩) (usesX l).length uc), (19, Ln .i64 (i + 1 : Nat))] [] Z, by omega, Le.of (by exact ⟨rfl, rfl, rfl, rfl, rfl, rfl, rfl, rfl, rfl, rfl, trivial⟩) (by exact ⟨rfl, rfl, trivial⟩) (by exact rfl) (by exact rfl) (by repeat' (first | refine all_cons_true ?_ ?_ | rfl | exact bytes_inUse | exact vals_inUse | exact mid_inUse rfl)), i + 1, by omega, rfl, next (fun h => ha h.1), rfl⟩
    by_cases h2 : u.op = 2
    · by_cases hb : u.b = (kn : Nat)
      · (refine LWP.seq <| LWP.seq <| LWP.region (by kernel_rfl) <| kmv rfl <| kmv rfl <| K.lenX rfl SliceT.h rfl .plain ?_; refine klt rfl rfl (decide_eq_true (by omega)) <| RunK.nil <| LWP.condT rfl ?_; refine LWP.skip ?_; refine LWP.seq <| LWP.block <| LWP.seq <| LWP.region (by kernel_rfl) <| kmv rfl <| kmv rfl <| K.indexX rfl rfl SliceT.h (by omega) hio .plain <| K.fieldAddrX rfl rfl .plain ?_; refine K.loadX rfl hX rfl c1 .plain <| kmv rfl <| keq rfl rfl (beq_iff_eq.2 ha) <| kmv rfl <| gmv rfl rfl rfl <| gmv rfl rfl rfl <| K.indexX rfl rfl SliceT.h (by omega) hio (.taken rfl rfl) ?_; refine K.fieldAddrX rfl rfl (.taken rfl rfl) ?_; refine K.loadX rfl hX rfl c0 (.taken rfl rfl) ?_; refine K.eql rfl rfl (beq_iff_eq.2 h2) (.taken rfl rfl) ?_; refine gmv rfl rfl rfl <| gmv rfl rfl rfl <| gmv rfl rfl rfl <| K.indexX rfl rfl SliceT.h (by omega) hio (.taken rfl rfl) ?_; refine K.fieldAddrX rfl rfl (.taken rfl rfl) ?_; refine K.loadX rfl hX rfl c2 (.taken rfl rfl) ?_; refine gmv rfl rfl rfl <| K.eql rfl rfl (beq_iff_eq.2 hb) (.taken rfl rfl) ?_; refine K.pickT rfl rfl (.taken rfl rfl) ?_; refine gmv rfl rfl rfl <| RunK.passed rfl rfl rfl <| RunK.passed rfl rfl rfl <| RunK.passed rfl rfl rfl <| RunK.passed rfl rfl rfl <| RunK.passed rfl rfl rfl <| RunK.passed rfl rfl rfl <| RunK.passed rfl rfl rfl <| RunK.passedU rfl rfl <| RunK.passedU rfl rfl <| RunK.passedU rfl rfl <| RunK.passed rfl rfl rfl <| K.pickT rfl rfl (.taken rfl rfl) ?_; refine kpt rfl rfl <| RunK.nil <| LWP.condT rfl ?_; refine LWP.seq <| LWP.region (by kernel_rfl) <| kas rfl <| RunK.nil <| LWP.ret ?_)
        exact ⟨[_], ⟨rfl, trivial⟩, rfl⟩
      · have h3 : u.op ≠ 3 := by omega
        ((refine LWP.seq <| LWP.seq <| LWP.region (by kernel_rfl) <| kmv rfl <| kmv rfl <| K.lenX rfl SliceT.h rfl .plain ?_; refine klt rfl rfl (decide_eq_true (by omega)) <| RunK.nil <| LWP.condT rfl ?_; refine LWP.skip ?_; refine LWP.seq <| LWP.block <| LWP.seq <| LWP.region (by kernel_rfl) <| kmv rfl <| kmv rfl <| K.indexX rfl rfl SliceT.h (by omega) hio .plain <| K.fieldAddrX rfl rfl .plain ?_; refine K.loadX rfl hX rfl c1 .plain <| kmv rfl <| keq rfl rfl (beq_iff_eq.2 ha) <| kmv rfl <| gmv rfl rfl rfl <| gmv rfl rfl rfl <| K.indexX rfl rfl SliceT.h (by omega) hio (.taken rfl rfl) ?_; refine K.fieldAddrX rfl rfl (.taken rfl rfl) ?_; refine K.loadX rfl hX rfl c0 (.taken rfl rfl) ?_; refine K.eql rfl rfl (beq_iff_eq.2 h2) (.taken rfl rfl) ?_; refine gmv rfl rfl rfl <| gmv rfl rfl rfl <| gmv rfl rfl rfl <| K.indexX rfl rfl SliceT.h (by omega) hio (.taken rfl rfl) ?_; refine K.fieldAddrX rfl rfl (.taken rfl rfl) ?_; refine K.loadX rfl hX rfl c2 (.taken rfl rfl) ?_; refine gmv rfl rfl rfl <| K.eql rfl rfl (beq_eq_false_iff_ne.2 hb) (.taken rfl rfl) ?_); (refine K.pickT rfl rfl (.taken rfl rfl) ?_; refine gmv rfl rfl rfl <| gmv rfl rfl rfl <| gmv rfl rfl rfl <| K.indexX rfl rfl SliceT.h (by omega) hio (.taken rfl rfl) ?_; refine K.fieldAddrX rfl rfl (.taken rfl rfl) ?_; refine K.loadX rfl hX rfl c0 (.taken rfl rfl) ?_; refine K.eql rfl rfl (beq_eq_false_iff_ne.2 h3) (.taken rfl rfl) ?_; refine gmv rfl rfl rfl <| RunK.passed rfl rfl rfl <| RunK.passed rfl rfl rfl <| RunK.passed rfl rfl rfl <| K.pickF rfl rfl (.taken rfl rfl) ?_; refine K.pickF rfl rfl (.taken rfl rfl) ?_; refine kpt rfl rfl <| RunK.nil <| LWP.condF rfl ?_; refine LWP.skip ?_; refine LWP.region (by kernel_rfl) <| kmv rfl <| kad rfl rfl hadd <| kas rfl <| RunK.nil ?_))
        exact ⟨_, ehSt l.length cap fs.length fcap ad (some ⟨fblk, foff, none⟩) at_ (fn : Nat) (kn : Nat) xb xN wb wN e [(18, Lx (some ⟨blk, off, none⟩) (usesX l).length uc), (19, Ln .i64 (i + 1 : Nat))] [] Z, by omega, Le.of (by exact ⟨rfl, rfl, rfl, rfl, rfl, rfl, rfl, rfl, rfl, rfl, trivial⟩) (by exact ⟨rfl, rfl, trivial⟩) (by exact rfl) (by exact rfl) (by repeat' (first | refine all_cons_true ?_ ?_ | rfl | exact bytes_inUse | exact vals_inUse | exact mid_inUse rfl)), i + 1, by omega, rfl, next (fun h => by rcases h.2 with h | h; exact hb h.2; exact h3 h.1), rfl⟩
    · by_cases h3 : u.op = 3
      · by_cases hk : at_ = (kn : Nat)
        · (refine LWP.seq <| LWP.seq <| LWP.region (by kernel_rfl) <| kmv rfl <| kmv rfl <| K.lenX rfl SliceT.h rfl .plain ?_; refine klt rfl rfl (decide_eq_true (by omega)) <| RunK.nil <| LWP.condT rfl ?_; refine LWP.skip ?_; refine LWP.seq <| LWP.block <| LWP.seq <| LWP.region (by kernel_rfl) <| kmv rfl <| kmv rfl <| K.indexX rfl rfl SliceT.h (by omega) hio .plain <| K.fieldAddrX rfl rfl .plain ?_; refine K.loadX rfl hX rfl c1 .plain <| kmv rfl <| keq rfl rfl (beq_iff_eq.2 ha) <| kmv rfl <| gmv rfl rfl rfl <| gmv rfl rfl rfl <| K.indexX rfl rfl SliceT.h (by omega) hio (.taken rfl rfl) ?_; refine K.fieldAddrX rfl rfl (.taken rfl rfl) ?_; refine K.loadX rfl hX rfl c0 (.taken rfl rfl) ?_; refine K.eql rfl rfl (beq_eq_false_iff_ne.2 h2) (.taken rfl rfl) ?_; refine gmv rfl rfl rfl <| RunK.passed rfl rfl rfl <| RunK.passed rfl rfl rfl <| RunK.passed rfl rfl rfl <| RunK.passed rfl rfl rfl <| RunK.passed rfl rfl rfl <| RunK.passed rfl rfl rfl <| RunK.passed rfl rfl rfl <| K.pickF rfl rfl (.taken rfl rfl) ?_; refine gmv rfl rfl rfl <| gmv rfl rfl rfl <| gmv rfl rfl rfl <| K.indexX rfl rfl SliceT.h (by omega) hio (.taken rfl rfl) ?_; refine K.fieldAddrX rfl rfl (.taken rfl rfl) ?_; refine K.loadX rfl hX rfl c0 (.taken rfl rfl) ?_; refine K.eql rfl rfl (beq_iff_eq.2 h3) (.taken rfl rfl) ?_; refine gmv rfl rfl rfl <| gmv rfl rfl rfl <| gmv rfl rfl rfl <| K.eql rfl rfl (beq_iff_eq.2 hk) (.taken rfl rfl) ?_; refine K.pickT rfl rfl (.taken rfl rfl) ?_; refine K.pickF rfl rfl (.taken rfl rfl) ?_; refine kpt rfl rfl <| RunK.nil <| LWP.condT rfl ?_; refine LWP.seq <| LWP.region (by kernel_rfl) <| kas rfl <| RunK.nil <| LWP.ret ?_)
          exact ⟨[_], ⟨rfl, trivial⟩, rfl⟩
        · (refine LWP.seq <| LWP.seq <| LWP.region (by kernel_rfl) <| kmv rfl <| kmv rfl <| K.lenX rfl SliceT.h rfl .plain ?_; refine klt rfl rfl (decide_eq_true (by omega)) <| RunK.nil <| LWP.condT rfl ?_; refine LWP.skip ?_; refine LWP.seq <| LWP.block <| LWP.seq <| LWP.region (by kernel_rfl) <| kmv rfl <| kmv rfl <| K.indexX rfl rfl SliceT.h (by omega) hio .plain <| K.fieldAddrX rfl rfl .plain ?_; refine K.loadX rfl hX rfl c1 .plain <| kmv rfl <| keq rfl rfl (beq_iff_eq.2 ha) <| kmv rfl <| gmv rfl rfl rfl <| gmv rfl rfl rfl <| K.indexX rfl rfl SliceT.h (by omega) hio (.taken rfl rfl) ?_; refine K.fieldAddrX rfl rfl (.taken rfl rfl) ?_; refine K.loadX rfl hX rfl c0 (.taken rfl rfl) ?_; refine K.eql rfl rfl (beq_eq_false_iff_ne.2 h2) (.taken rfl rfl) ?_; refine gmv rfl rfl rfl <| RunK.passed rfl rfl rfl <| RunK.passed rfl rfl rfl <| RunK.passed rfl rfl rfl <| RunK.passed rfl rfl rfl <| RunK.passed rfl rfl rfl <| RunK.passed rfl rfl rfl <| RunK.passed rfl rfl rfl <| K.pickF rfl rfl (.taken rfl rfl) ?_; refine gmv rfl rfl rfl <| gmv rfl rfl rfl <| gmv rfl rfl rfl <| K.indexX rfl rfl SliceT.h (by omega) hio (.taken rfl rfl) ?_; refine K.fieldAddrX rfl rfl (.taken rfl rfl) ?_; refine K.loadX rfl hX rfl c0 (.taken rfl rfl) ?_; refine K.eql rfl rfl (beq_iff_eq.2 h3) (.taken rfl rfl) ?_; refine gmv rfl rfl rfl <| gmv rfl rfl rfl <| gmv rfl rfl rfl <| K.eql rfl rfl (beq_eq_false_iff_ne.2 hk) (.taken rfl rfl) ?_; refine K.pickT rfl rfl (.taken rfl rfl) ?_; refine K.pickF rfl rfl (.taken rfl rfl) ?_; refine kpt rfl rfl <| RunK.nil <| LWP.condF rfl ?_; refine LWP.skip ?_; refine LWP.region (by kernel_rfl) <| kmv rfl <| kad rfl rfl hadd <| kas rfl <| RunK.nil ?_)
          exact ⟨_, ehSt l.length cap fs.length fcap ad (some ⟨fblk, foff, none⟩) at_ (fn : Nat) (kn : Nat) xb xN wb wN e [(18, Lx (some ⟨blk, off, none⟩) (usesX l).length uc), (19, Ln .i64 (i + 1 : Nat))] [] Z, by omega, Le.of (by exact ⟨rfl, rfl, rfl, rfl, rfl, rfl, rfl, rfl, rfl, rfl, trivial⟩) (by exact ⟨rfl, rfl, trivial⟩) (by exact rfl) (by exact rfl) (by repeat' (first | refine all_cons_true ?_ ?_ | rfl | exact bytes_inUse | exact vals_inUse | exact mid_inUse rfl)), i + 1, by omega, rfl, next (fun h => by rcases h.2 with h | h; exact h2 h.1; exact hk h.2), rfl⟩
      · (refine LWP.seq <| LWP.seq <| LWP.region (by kernel_rfl) <| kmv rfl <| kmv rfl <| K.lenX rfl SliceT.h rfl .plain ?_; refine klt rfl rfl (decide_eq_true (by omega)) <| RunK.nil <| LWP.condT rfl ?_; refine LWP.skip ?_; refine LWP.seq <| LWP.block <| LWP.seq <| LWP.region (by kernel_rfl) <| kmv rfl <| kmv rfl <| K.indexX rfl rfl SliceT.h (by omega) hio .plain <| K.fieldAddrX rfl rfl .plain ?_; refine K.loadX rfl hX rfl c1 .plain <| kmv rfl <| keq rfl rfl (beq_iff_eq.2 ha) <| kmv rfl <| gmv rfl rfl rfl <| gmv rfl rfl rfl <| K.indexX rfl rfl SliceT.h (by omega) hio (.taken rfl rfl) ?_; refine K.fieldAddrX rfl rfl (.taken rfl rfl) ?_; refine K.loadX rfl hX rfl c0 (.taken rfl rfl) ?_; refine K.eql rfl rfl (beq_eq_false_iff_ne.2 h2) (.taken rfl rfl) ?_; refine gmv rfl rfl rfl <| RunK.passed rfl rfl rfl <| RunK.passed rfl rfl rfl <| RunK.passed rfl rfl rfl <| RunK.passed rfl rfl rfl <| RunK.passed rfl rfl rfl <| RunK.passed rfl rfl rfl <| RunK.passed rfl rfl rfl <| K.pickF rfl rfl (.taken rfl rfl) ?_; refine gmv rfl rfl rfl <| gmv rfl rfl rfl <| gmv rfl rfl rfl <| K.indexX rfl rfl SliceT.h (by omega) hio (.taken rfl rfl) ?_; refine K.fieldAddrX rfl rfl (.taken rfl rfl) ?_; refine K.loadX rfl hX rfl c0 (.taken rfl rfl) ?_; refine K.eql rfl rfl (beq_eq_false_iff_ne.2 h3) (.taken rfl rfl) ?_; refine gmv rfl rfl rfl <| RunK.passed rfl rfl rfl <| RunK.passed rfl rfl rfl <| RunK.passed rfl rfl rfl <| K.pickF rfl rfl (.taken rfl rfl) ?_; refine K.pickF rfl rfl (.taken rfl rfl) ?_; refine kpt rfl rfl <| RunK.nil <| LWP.condF rfl ?_; refine LWP.skip ?_; refine LWP.region (by kernel_rfl) <| kmv rfl <| kad rfl rfl hadd <| kas rfl <| RunK.nil ?_)
        exact ⟨_, ehSt l.length cap fs.length fcap ad (some ⟨fblk, foff, none⟩) at_ (fn : Nat) (kn : Nat) xb xN wb wN e [(18, Lx (some ⟨blk, off, none⟩) (usesX l).length uc), (19, Ln .i64 (i + 1 : Nat))] [] Z, by omega, Le.of (by exact ⟨rfl, rfl, rfl, rfl, rfl, rfl, rfl, rfl, rfl, rfl, trivial⟩) (by exact ⟨rfl, rfl, trivial⟩) (by exact rfl) (by exact rfl) (by repeat' (first | refine all_cons_true ?_ ?_ | rfl | exact bytes_inUse | exact vals_inUse | exact mid_inUse rfl)), i + 1, by omega, rfl, next (fun h => by rcases h.2 with h | h; exact h2 h.1; exact h3 h.1), rfl⟩
  have ei : i = (usesX l).length := by omega
  subst ei
  rw [List.take_length] at hpre
  have hE2 := hHang fn kn hpre
  (refine LWP.seq <| LWP.seq <| LWP.region (by kernel_rfl) <| kmv rfl <| kmv rfl <| K.lenX rfl SliceT.h rfl .plain ?_; refine klt rfl rfl (decide_eq_false (by omega)) <| RunK.nil <| LWP.condF rfl ?_; refine LWP.exit <| LWP.seq <| LWP.region (by kernel_rfl) <| K.buildSlc (zs := []) (sz := 1) (e := 58) (by kernel_rfl) rfl rfl rfl rfl rfl rfl .plain <| kas rfl <| RunK.nil <| LWP.seq <| LWP.seq <| LWP.region (by kernel_rfl) <| kas rfl <| RunK.nil <| LWP.block ?_)
  refine LWP.loopL (fun m σ => ∃ (i : Nat) (Y : Nat → Option Obj), i ≤ fs.length ∧ m = fs.length - i ∧ (∀ b o, Z b = some o → Y b = some o) ∧ ((i ≤ fn ∧ ∃ (vs : List Value) (r : Bool), RowV Y vs (fs.take i) ∧ σ = ehSt l.length cap fs.length fcap ad (some ⟨fblk, foff, none⟩) at_ (fn : Nat) (kn : Nat) xb xN wb wN e [(20, .sv (.one (.slc 500 0 i 1))), (21, Ln .i64 (i : Nat))] [(500, some ⟨58, vs.map .val, r⟩)] Y) ∨ (fn < i ∧ ∃ (vs ws : List Value), RowV Y vs (fs.take fn) ∧ RowV Y ws ((fs.take i).drop (fn + 1)) ∧ σ = ehSt l.length cap fs.length fcap ad (some ⟨fblk, foff, none⟩) at_ (fn : Nat) (kn : Nat) xb xN wb wN e [(20, .sv (.one (.slc 500 0 i 1))), (21, Ln .i64 (i : Nat))] [(500, some ⟨58, vs.map .val ++ .slc 700 0 rf.length 3 :: ws.map .val, true⟩), (700, some ⟨30, (nmsV rf).map .val, true⟩)] Y))) fs.length
    (Leads.le (σ' := ehSt l.length cap fs.length fcap ad (some ⟨fblk, foff, none⟩) at_ (fn : Nat) (kn : Nat) xb xN wb wN e [(20, .sv (.one (.slc 500 0 0 1))), (21, Ln .i64 (0 : Nat))] [(500, some ⟨58, ([] : List Value).map .val, false⟩)] Z) (Le.ofR [(500, 118)] (by exact ⟨rfl, rfl, rfl, rfl, rfl, rfl, rfl, rfl, rfl, rfl, trivial⟩) (by repeat' (first | exact trivial | refine And.intro ⟨_, rfl, ?_⟩ ?_ | refine And.intro ⟨_, rfl⟩ ?_ | rfl | exact Box.ren_bytes _ _ _ _ | exact Box.ren_vals _ _ _ _ | exact Box.ren_mid rfl)) (by exact rfl) (by exact rfl) (by repeat' (first | refine all_cons_true ?_ ?_ | rfl | exact bytes_inUse | exact vals_inUse | exact mid_inUse rfl)) (by exact rfl) (by exact rfl)) (Leads.done ⟨0, Z, Nat.zero_le _, rfl, fun _ _ h => h, .inl ⟨Nat.zero_le _, [], false, RowV.nil, rfl⟩⟩)) ?_
  rintro m σ ⟨i, Y, hi, rfl, hZY, hcase⟩
  have hfsY := hfs.mono fun b o h => hZY b o (hZ b o h)
  by_cases hlt : i < fs.length
  · obtain ⟨r, hr⟩ : ∃ r, fs[i]? = some r := ⟨_, List.getElem?_eq_getElem hlt⟩
    have hr20 := h20 r (List.mem_of_getElem? hr)
    obtain ⟨blk, off, arr, el, fr, vad, vcap, he, hXb, _, hc, hN⟩ := hfsY.at_ _ r hr
    simp only [Option.some.injEq, Addr.mk.injEq, and_true] at he
    obtain ⟨rfl, rfl⟩ := he
    have hio : foff + Int.toNat (i : Int) * 1 = foff + i := by simp
    have hadd : IntKind.i64.wrap ((i : Int) + 1) = ((i + 1 : Nat) : Int) := by rw [wrap_i64 (by omega)]; omega
    have hf2r : ∀ u ∈ r, In2 u.2 := hf2 r (List.mem_of_getElem? hr)
    rcases hcase with ⟨hle, vs, rr, hv, rfl⟩ | ⟨hgt, vs, ws, hv, hw, rfl⟩
    · have hcl : (vs.map CV.val).length = i * 1 := by rw [List.length_map, hv.1, List.length_take]; omega
      (refine LWP.seq <| LWP.seq <| LWP.region (by kernel_rfl) <| kmv rfl <| kmv rfl <| K.lenX rfl SliceT.h rfl .plain ?_; refine klt rfl rfl (decide_eq_true (by omega)) <| RunK.nil <| LWP.condT rfl ?_; refine LWP.skip ?_; refine LWP.seq <| LWP.block ?_)
      repeat refine LWP.seq ?_
      refine LWP.meetB (fun σ => σ = ehSt l.length cap fs.length fcap ad (some ⟨fblk, foff, none⟩) at_ (fn : Nat) (kn : Nat) xb xN wb wN e [(20, .sv (.one (.slc 500 0 (i + 1) 1))), (21, Ln .i64 (i : Nat))] [(500, some ⟨58, vs.map .val ++ .slc 900 0 r.length 3 :: ([] : List Value).map .val, true⟩), (900, some ⟨30, (nmsV r).map .val, true⟩)] Y) ?_ ?_
      · cases vad with
        | none =>
          have hr0 := nums_none2 hN
          subst hr0
          (refine LWP.region (by kernel_rfl) <| kmv rfl <| K.buildSlc (zs := []) (sz := 3) (e := 30) (by kernel_rfl) rfl rfl rfl rfl rfl rfl .plain <| kmv rfl <| kmv rfl <| K.indexX rfl rfl SliceT.h (by omega) hio .plain <| K.loadX rfl hXb rfl hc .plain <| K.appendX0 (by_ := 24) (e2 := 30) (nl := 0) (nc := []) rfl rfl rfl rfl (by kernel_rfl) (by kernel_rfl) (by omega) (by omega) rfl rfl rfl .plain ?_; refine K.buildSlc (zs := [.slice none 0 0]) (sz := 1) (e := 58) (cs' := [.slc 131 0 0 3]) (by kernel_rfl) rfl rfl rfl rfl rfl rfl .plain <| K.appendSlc (by_ := 24) (e2 := 58) (l2 := [.slc 131 0 0 3]) (nl := i + 1) (nc := vs.map .val ++ [.slc 131 0 0 3]) rfl rfl hcl rfl rfl (Nat.le_refl _) rfl rfl (by kernel_rfl) (by kernel_rfl) (by omega) (by omega) rfl rfl rfl .plain <| kas rfl <| RunK.nil ?_)
          exact Leads.here (σ' := ehSt l.length cap fs.length fcap ad (some ⟨fblk, foff, none⟩) at_ (fn : Nat) (kn : Nat) xb xN wb wN e [(20, .sv (.one (.slc 500 0 (i + 1) 1))), (21, Ln .i64 (i : Nat))] [(500, some ⟨58, vs.map .val ++ .slc 900 0 0 3 :: ([] : List Value).map .val, true⟩), (900, some ⟨30, (nmsV []).map .val, true⟩)] Y) (Le.ofR [(500, 133), (900, 131)] (by exact ⟨rfl, rfl, rfl, rfl, rfl, rfl, rfl, rfl, rfl, rfl, trivial⟩) (by repeat' (first | exact trivial | refine And.intro ⟨_, rfl, ?_⟩ ?_ | refine And.intro ⟨_, rfl⟩ ?_ | rfl | exact Box.ren_bytes _ _ _ _ | exact Box.ren_vals _ _ _ _ | exact Box.ren_mid rfl)) (by exact rfl) (by exact rfl) (by repeat' (first | refine all_cons_true ?_ ?_ | rfl | exact bytes_inUse | exact vals_inUse | exact mid_inUse rfl)) (by exact rfl) (by exact rfl)) rfl
        | some va =>
          have hRd := nums_reads2 hN
          have hnl := nmsV_len r
          rw [List.length_map] at hnl
          (refine LWP.region (by kernel_rfl) <| kmv rfl <| K.buildSlc (zs := []) (sz := 3) (e := 30) (by kernel_rfl) rfl rfl rfl rfl rfl rfl .plain <| kmv rfl <| kmv rfl <| K.indexX rfl rfl SliceT.h (by omega) hio .plain <| K.loadX rfl hXb rfl hc .plain <| K.appendX (by_ := 24) (e2 := 30) (news := nmsV r) (nl := r.length) (nc := (nmsV r).map .val) rfl rfl rfl rfl hRd hnl (nmsV_one r) (by kernel_rfl) (by kernel_rfl) (by omega) (by omega) rfl (Nat.zero_add _) (List.nil_append _) .plain ?_; refine K.buildSlc (zs := [.slice none 0 0]) (sz := 1) (e := 58) (cs' := [.slc 131 0 r.length 3]) (by kernel_rfl) rfl rfl rfl rfl rfl rfl .plain <| K.appendSlc (by_ := 24) (e2 := 58) (l2 := [.slc 131 0 r.length 3]) (nl := i + 1) (nc := vs.map .val ++ [.slc 131 0 r.length 3]) rfl rfl hcl rfl rfl (Nat.le_refl _) rfl rfl (by kernel_rfl) (by kernel_rfl) (by omega) (by omega) rfl rfl rfl .plain <| kas rfl <| RunK.nil ?_)
          exact Leads.here (σ' := ehSt l.length cap fs.length fcap ad (some ⟨fblk, foff, none⟩) at_ (fn : Nat) (kn : Nat) xb xN wb wN e [(20, .sv (.one (.slc 500 0 (i + 1) 1))), (21, Ln .i64 (i : Nat))] [(500, some ⟨58, vs.map .val ++ .slc 900 0 r.length 3 :: ([] : List Value).map .val, true⟩), (900, some ⟨30, (nmsV r).map .val, true⟩)] Y) (Le.ofR [(500, 133), (900, 131)] (by exact ⟨rfl, rfl, rfl, rfl, rfl, rfl, rfl, rfl, rfl, rfl, trivial⟩) (by repeat' (first | exact trivial | refine And.intro ⟨_, rfl, ?_⟩ ?_ | refine And.intro ⟨_, rfl⟩ ?_ | rfl | exact Box.ren_bytes _ _ _ _ | exact Box.ren_vals _ _ _ _ | exact Box.ren_mid rfl)) (by exact rfl) (by exact rfl) (by repeat' (first | refine all_cons_true ?_ ?_ | rfl | exact bytes_inUse | exact vals_inUse | exact mid_inUse rfl)) (by exact rfl) (by exact rfl)) rfl
      rintro σ rfl
      by_cases hif : i = fn
      · subst hif
        have hrr : r = rf := by rw [hrf] at hr; exact (Option.some.inj hr).symm
        subst hrr
        (refine LWP.region (by kernel_rfl) <| kmv rfl <| kad rfl rfl hadd <| kas rfl <| RunK.nil ?_)
        exact Leads.le (σ' := ehSt l.length cap fs.length fcap ad (some ⟨fblk, foff, none⟩) at_ (i : Nat) (kn : Nat) xb xN wb wN e [(20, .sv (.one (.slc 500 0 (i + 1) 1))), (21, Ln .i64 (i + 1 : Nat))] [(500, some ⟨58, vs.map .val ++ .slc 700 0 r.length 3 :: ([] : List Value).map .val, true⟩), (700, some ⟨30, (nmsV r).map .val, true⟩)] Y) (Le.ofR [(500, 500), (700, 900)] (by exact ⟨rfl, rfl, rfl, rfl, rfl, rfl, rfl, rfl, rfl, rfl, trivial⟩) (by repeat' (first | exact trivial | refine And.intro ⟨_, rfl, ?_⟩ ?_ | refine And.intro ⟨_, rfl⟩ ?_ | rfl | exact Box.ren_bytes _ _ _ _ | exact Box.ren_vals _ _ _ _ | exact Box.ren_mid rfl)) (by exact rfl) (by exact rfl) (by repeat' (first | refine all_cons_true ?_ ?_ | rfl | exact bytes_inUse | exact vals_inUse | exact mid_inUse rfl)) (by exact rfl) (by exact rfl)) (Leads.done ⟨fs.length - (i + 1), by omega, i + 1, Y, by omega, rfl, hZY, .inr ⟨by omega, vs, [], hv, by rw [List.drop_eq_nil_of_le (by rw [List.length_take]; omega)]; exact RowV.nil, rfl⟩⟩)
      · refine LWP.freezeCell (A := vs.map CV.val) (B := []) rfl vals_inUse rfl rfl rfl rfl fun b7 c7 a7 f7 n7 _ _ _ sp7 => ?_
        have hN7 : NumsIn (withBlock Y b7 (.cells a7 30 f7)) (some ⟨b7, 0, none⟩) r := nms_in (withBlock_at _ _ _) hf2r sp7
        have hv7 := (hv.mono (withBlock_old (o := .cells a7 30 f7) n7)).append (RowV.one (cap := c7) hN7)
        have hZ7 : ∀ b o, Z b = some o → withBlock Y b7 (.cells a7 30 f7) b = some o := fun b o h => withBlock_old n7 b o (hZY b o h)
        rw [← take_snoc hr] at hv7
        generalize withBlock Y b7 (.cells a7 30 f7) = Y7 at *
        rw [show vs.map CV.val ++ CV.val (Value.slice (some ⟨b7, 0, none⟩) r.length c7) :: [] = (vs ++ [Value.slice (some ⟨b7, 0, none⟩) r.length c7]).map CV.val by simp]
        generalize vs ++ [Value.slice (some ⟨b7, 0, none⟩) r.length c7] = vs7 at *
        (refine LWP.region (by kernel_rfl) <| kmv rfl <| kad rfl rfl hadd <| kas rfl <| RunK.nil ?_)
        exact Leads.le (σ' := ehSt l.length cap fs.length fcap ad (some ⟨fblk, foff, none⟩) at_ (fn : Nat) (kn : Nat) xb xN wb wN e [(20, .sv (.one (.slc 500 0 (i + 1) 1))), (21, Ln .i64 (i + 1 : Nat))] [(500, some ⟨58, vs7.map .val, true⟩)] Y7) (Le.ofR [(500, 500)] (by exact ⟨rfl, rfl, rfl, rfl, rfl, rfl, rfl, rfl, rfl, rfl, trivial⟩) (by repeat' (first | exact trivial | refine And.intro ⟨_, rfl, ?_⟩ ?_ | refine And.intro ⟨_, rfl⟩ ?_ | rfl | exact Box.ren_bytes _ _ _ _ | exact Box.ren_vals _ _ _ _ | exact Box.ren_mid rfl)) (by exact rfl) (by exact rfl) (by repeat' (first | refine all_cons_true ?_ ?_ | rfl | exact bytes_inUse | exact vals_inUse | exact mid_inUse rfl)) (by exact rfl) (by exact rfl)) (Leads.done ⟨fs.length - (i + 1), by omega, i + 1, Y7, by omega, rfl, hZ7, .inl ⟨by omega, vs7, true, hv7, rfl⟩⟩)
    · have hcl : (vs.map CV.val ++ CV.slc 700 0 rf.length 3 :: ws.map CV.val).length = i * 1 := by rw [List.length_append, List.length_cons, List.length_map, List.length_map, hv.1, hw.1, List.length_drop, List.length_take, List.length_take]; omega
      (refine LWP.seq <| LWP.seq <| LWP.region (by kernel_rfl) <| kmv rfl <| kmv rfl <| K.lenX rfl SliceT.h rfl .plain ?_; refine klt rfl rfl (decide_eq_true (by omega)) <| RunK.nil <| LWP.condT rfl ?_; refine LWP.skip ?_; refine LWP.seq <| LWP.block ?_)
      repeat refine LWP.seq ?_
      refine LWP.meetB (fun σ => σ = ehSt l.length cap fs.length fcap ad (some ⟨fblk, foff, none⟩) at_ (fn : Nat) (kn : Nat) xb xN wb wN e [(20, .sv (.one (.slc 500 0 (i + 1) 1))), (21, Ln .i64 (i : Nat))] [(500, some ⟨58, vs.map .val ++ .slc 700 0 rf.length 3 :: (ws.map .val ++ .slc 900 0 r.length 3 :: ([] : List Value).map .val), true⟩), (900, some ⟨30, (nmsV r).map .val, true⟩), (700, some ⟨30, (nmsV rf).map .val, true⟩)] Y) ?_ ?_
      · cases vad with
        | none =>
          have hr0 := nums_none2 hN
          subst hr0
          (refine LWP.region (by kernel_rfl) <| kmv rfl <| K.buildSlc (zs := []) (sz := 3) (e := 30) (by kernel_rfl) rfl rfl rfl rfl rfl rfl .plain <| kmv rfl <| kmv rfl <| K.indexX rfl rfl SliceT.h (by omega) hio .plain <| K.loadX rfl hXb rfl hc .plain <| K.appendX0 (by_ := 24) (e2 := 30) (nl := 0) (nc := []) rfl rfl rfl rfl (by kernel_rfl) (by kernel_rfl) (by omega) (by omega) rfl rfl rfl .plain ?_; refine K.buildSlc (zs := [.slice none 0 0]) (sz := 1) (e := 58) (cs' := [.slc 131 0 0 3]) (by kernel_rfl) rfl rfl rfl rfl rfl rfl .plain <| K.appendSlc (by_ := 24) (e2 := 58) (l2 := [.slc 131 0 0 3]) (nl := i + 1) (nc := vs.map .val ++ .slc 700 0 rf.length 3 :: (ws.map .val ++ [.slc 131 0 0 3])) rfl rfl hcl rfl rfl (Nat.le_refl _) rfl rfl (by kernel_rfl) (by kernel_rfl) (by omega) (by omega) rfl rfl (List.append_assoc _ _ _) .plain <| kas rfl <| RunK.nil ?_)
          exact Leads.here (σ' := ehSt l.length cap fs.length fcap ad (some ⟨fblk, foff, none⟩) at_ (fn : Nat) (kn : Nat) xb xN wb wN e [(20, .sv (.one (.slc 500 0 (i + 1) 1))), (21, Ln .i64 (i : Nat))] [(500, some ⟨58, vs.map .val ++ .slc 700 0 rf.length 3 :: (ws.map .val ++ .slc 900 0 0 3 :: ([] : List Value).map .val), true⟩), (900, some ⟨30, (nmsV []).map .val, true⟩), (700, some ⟨30, (nmsV rf).map .val, true⟩)] Y) (Le.ofR [(500, 133), (900, 131), (700, 700)] (by exact ⟨rfl, rfl, rfl, rfl, rfl, rfl, rfl, rfl, rfl, rfl, trivial⟩) (by repeat' (first | exact trivial | refine And.intro ⟨_, rfl, ?_⟩ ?_ | refine And.intro ⟨_, rfl⟩ ?_ | rfl | exact Box.ren_bytes _ _ _ _ | exact Box.ren_vals _ _ _ _ | exact Box.ren_mid rfl | exact Box.ren_mid2 rfl rfl)) (by exact rfl) (by exact rfl) (by repeat' (first | refine all_cons_true ?_ ?_ | rfl | exact bytes_inUse | exact vals_inUse | exact mid_inUse rfl | exact mid2_inUse rfl rfl)) (by exact rfl) (by exact rfl)) rfl
        | some va =>
          have hRd := nums_reads2 hN
          have hnl := nmsV_len r
          rw [List.length_map] at hnl
          (refine LWP.region (by kernel_rfl) <| kmv rfl <| K.buildSlc (zs := []) (sz := 3) (e := 30) (by kernel_rfl) rfl rfl rfl rfl rfl rfl .plain <| kmv rfl <| kmv rfl <| K.indexX rfl rfl SliceT.h (by omega) hio .plain <| K.loadX rfl hXb rfl hc .plain <| K.appendX (by_ := 24) (e2 := 30) (news := nmsV r) (nl := r.length) (nc := (nmsV r).map .val) rfl rfl rfl rfl hRd hnl (nmsV_one r) (by kernel_rfl) (by kernel_rfl) (by omega) (by omega) rfl (Nat.zero_add _) (List.nil_append _) .plain ?_; refine K.buildSlc (zs := [.slice none 0 0]) (sz := 1) (e := 58) (cs' := [.slc 131 0 r.length 3]) (by kernel_rfl) rfl rfl rfl rfl rfl rfl .plain <| K.appendSlc (by_ := 24) (e2 := 58) (l2 := [.slc 131 0 r.length 3]) (nl := i + 1) (nc := vs.map .val ++ .slc 700 0 rf.length 3 :: (ws.map .val ++ [.slc 131 0 r.length 3])) rfl rfl hcl rfl rfl (Nat.le_refl _) rfl rfl (by kernel_rfl) (by kernel_rfl) (by omega) (by omega) rfl rfl (List.append_assoc _ _ _) .plain <| kas rfl <| RunK.nil ?_)
          exact Leads.here (σ' := ehSt l.length cap fs.length fcap ad (some ⟨fblk, foff, none⟩) at_ (fn : Nat) (kn : Nat) xb xN wb wN e [(20, .sv (.one (.slc 500 0 (i + 1) 1))), (21, Ln .i64 (i : Nat))] [(500, some ⟨58, vs.map .val ++ .slc 700 0 rf.length 3 :: (ws.map .val ++ .slc 900 0 r.length 3 :: ([] : List Value).map .val), true⟩), (900, some ⟨30, (nmsV r).map .val, true⟩), (700, some ⟨30, (nmsV rf).map .val, true⟩)] Y) (Le.ofR [(500, 133), (900, 131), (700, 700)] (by exact ⟨rfl, rfl, rfl, rfl, rfl, rfl, rfl, rfl, rfl, rfl, trivial⟩) (by repeat' (first | exact trivial | refine And.intro ⟨_, rfl, ?_⟩ ?_ | refine And.intro ⟨_, rfl⟩ ?_ | rfl | exact Box.ren_bytes _ _ _ _ | exact Box.ren_vals _ _ _ _ | exact Box.ren_mid rfl | exact Box.ren_mid2 rfl rfl)) (by exact rfl) (by exact rfl) (by repeat' (first | refine all_cons_true ?_ ?_ | rfl | exact bytes_inUse | exact vals_inUse | exact mid_inUse rfl | exact mid2_inUse rfl rfl)) (by exact rfl) (by exact rfl)) rfl
      rintro σ rfl
      rw [show vs.map CV.val ++ CV.slc 700 0 rf.length 3 :: (ws.map CV.val ++ CV.slc 900 0 r.length 3 :: ([] : List Value).map CV.val) = (vs.map CV.val ++ CV.slc 700 0 rf.length 3 :: ws.map CV.val) ++ CV.slc 900 0 r.length 3 :: [] by simp]
      refine LWP.freezeCell (A := vs.map CV.val ++ CV.slc 700 0 rf.length 3 :: ws.map CV.val) (B := []) rfl (mid_inUse rfl) rfl (by exact (by repeat' (first | refine all_cons_true ?_ ?_ | rfl | exact bytes_inUse | exact vals_inUse | exact mid_inUse rfl))) rfl rfl fun b7 c7 a7 f7 n7 _ _ _ sp7 => ?_
      have hN7 : NumsIn (withBlock Y b7 (.cells a7 30 f7)) (some ⟨b7, 0, none⟩) r := nms_in (withBlock_at _ _ _) hf2r sp7
      have hw7 := (hw.mono (withBlock_old (o := .cells a7 30 f7) n7)).append (RowV.one (cap := c7) hN7)
      have hv7 := hv.mono (withBlock_old (o := .cells a7 30 f7) n7)
      have hZ7 : ∀ b o, Z b = some o → withBlock Y b7 (.cells a7 30 f7) b = some o := fun b o h => withBlock_old n7 b o (hZY b o h)
      rw [← drop_take_snoc hr hgt] at hw7
      generalize withBlock Y b7 (.cells a7 30 f7) = Y7 at *
      rw [show (vs.map CV.val ++ CV.slc 700 0 rf.length 3 :: ws.map CV.val) ++ CV.val (Value.slice (some ⟨b7, 0, none⟩) r.length c7) :: [] = vs.map CV.val ++ CV.slc 700 0 rf.length 3 :: (ws ++ [Value.slice (some ⟨b7, 0, none⟩) r.length c7]).map CV.val by simp]
      generalize ws ++ [Value.slice (some ⟨b7, 0, none⟩) r.length c7] = ws7 at *
      (refine LWP.region (by kernel_rfl) <| kmv rfl <| kad rfl rfl hadd <| kas rfl <| RunK.nil ?_)
      exact Leads.le (σ' := ehSt l.length cap fs.length fcap ad (some ⟨fblk, foff, none⟩) at_ (fn : Nat) (kn : Nat) xb xN wb wN e [(20, .sv (.one (.slc 500 0 (i + 1) 1))), (21, Ln .i64 (i + 1 : Nat))] [(500, some ⟨58, vs.map .val ++ .slc 700 0 rf.length 3 :: ws7.map .val, true⟩), (700, some ⟨30, (nmsV rf).map .val, true⟩)] Y7) (Le.ofR [(500, 500), (700, 700)] (by exact ⟨rfl, rfl, rfl, rfl, rfl, rfl, rfl, rfl, rfl, rfl, trivial⟩) (by repeat' (first | exact trivial | refine And.intro ⟨_, rfl, ?_⟩ ?_ | refine And.intro ⟨_, rfl⟩ ?_ | rfl | exact Box.ren_bytes _ _ _ _ | exact Box.ren_vals _ _ _ _ | exact Box.ren_mid rfl)) (by exact rfl) (by exact rfl) (by repeat' (first | refine all_cons_true ?_ ?_ | rfl | exact bytes_inUse | exact vals_inUse | exact mid_inUse rfl)) (by exact rfl) (by exact rfl)) (Leads.done ⟨fs.length - (i + 1), by omega, i + 1, Y7, by omega, rfl, hZ7, .inr ⟨by omega, vs, ws7, hv7, hw7, rfl⟩⟩)
  have ei : i = fs.length := by omega
  subst ei
  rcases hcase with ⟨hle, _⟩ | ⟨_, vs, ws, hv, hw, rfl⟩
  · omega
  rw [List.take_length] at hw
  have hvl : vs.length = fn := by rw [hv.1, List.length_take]; omega
  have hix : 0 + Int.toNat (fn : Int) * 1 = fn := by simp
  have hixk : 0 + Int.toNat (kn : Int) * 3 = kn * 3 := by simp
  have hat2 : (vs.map CV.val ++ CV.slc 700 0 rf.length 3 :: ws.map CV.val)[fn]? = some (CV.slc 700 0 rf.length 3) := by
    rw [List.getElem?_append_right (by rw [List.length_map]; omega), List.length_map, hvl, Nat.sub_self]
    rfl
  have hm3 : kn * 3 + 3 ≤ ((nmsV rf).map CV.val).length := by rw [nmsV_len]; omega
  have hspl := nmsV_splice rf kn (xb, xN) (by omega)
  (refine LWP.seq <| LWP.seq <| LWP.region (by kernel_rfl) <| kmv rfl <| kmv rfl <| K.lenX rfl SliceT.h rfl .plain ?_; refine klt rfl rfl (decide_eq_false (by omega)) <| RunK.nil <| LWP.condF rfl ?_; refine LWP.exit <| LWP.seq <| LWP.draws mixed (by kernel_rfl) <| kmv rfl <| kmv rfl <| K.indexSlc rfl rfl (by omega) hix .plain ?_; refine kl1 rfl rfl hat2 <| kmv rfl <| K.loadAll rfl rfl rfl .plain ?_; refine K.indexSlc rfl rfl (by omega) hixk .plain ?_; refine K.store (cs' := (nmsV (rf.set kn (xb, xN))).map .val) rfl rfl rfl rfl (by kernel_rfl) hm3 hspl .plain <| RunK.nil <| And.intro (by kernel_rfl) ?_; refine LWP.seq ?_)
  have hsl : (setE fs fn kn (xb, xN)).length = fs.length := by unfold setE; rw [List.length_set]
  have hsr : ∀ r ∈ setE fs fn kn (xb, xN), r.length ≤ 20 ∧ ∀ u ∈ r, In2 u.2 := fun r hr => by
    rw [setE_split hrf] at hr
    rcases List.mem_append.1 hr with h | h
    · exact ⟨h20 r (List.mem_of_mem_take h), hf2 r (List.mem_of_mem_take h)⟩
    · rcases List.mem_append.1 h with h | h
      · rw [List.mem_singleton.1 h]
        refine ⟨by rw [List.length_set]; exact hrf20, fun u hu => ?_⟩
        rcases List.mem_or_eq_of_mem_set hu with hu | rfl
        · exact hf2 rf (List.mem_of_getElem? hrf) u hu
        · exact hx2
      · exact ⟨h20 r (List.mem_of_mem_drop h), hf2 r (List.mem_of_mem_drop h)⟩
  have hset2 : ∀ u ∈ rf.set kn (xb, xN), In2 u.2 := (hsr _ (by rw [setE_split hrf]; simp)).2
  refine LWP.le (σ' := ⟨[(20, .sv (.one (.slc 500 0 fs.length 1))), (0, Lx ad l.length cap), (1, Lx (some ⟨fblk, foff, none⟩) fs.length fcap), (2, Ln .i64 at_), (11, Lp 11), (14, Lp 14), (15, Ln .i64 e)], [(500, some ⟨58, vs.map .val ++ .slc 700 0 rf.length 3 :: ws.map .val, true⟩), (700, some ⟨30, (nmsV (rf.set kn (xb, xN))).map .val, true⟩), (11, some ⟨30, cI xb xN, false⟩), (14, some ⟨30, cI wb wN, false⟩)], Y⟩) (Le.of (by exact ⟨rfl, rfl, rfl, rfl, rfl, rfl, rfl, trivial⟩) (by exact ⟨rfl, rfl, rfl, rfl, trivial⟩) (by exact rfl) (by exact rfl) (by repeat' (first | refine all_cons_true ?_ ?_ | rfl | exact bytes_inUse | exact vals_inUse | exact mid_inUse rfl))) ?_
  refine LWP.freezeCell (A := vs.map CV.val) (B := ws.map CV.val) rfl vals_inUse vals_inUse rfl rfl rfl fun b7 c7 a7 f7 n7 _ _ _ sp7 => ?_
  have hN7 : NumsIn (withBlock Y b7 (.cells a7 30 f7)) (some ⟨b7, 0, none⟩) (rf.set kn (xb, xN)) := nms_in (withBlock_at _ _ _) hset2 sp7
  have hone := RowV.one (cap := c7) hN7
  rw [List.length_set] at hone
  have hv7 := (hv.mono (withBlock_old (o := .cells a7 30 f7) n7)).append (hone.append (hw.mono (withBlock_old (o := .cells a7 30 f7) n7)))
  have hZ7 : ∀ b o, X b = some o → withBlock Y b7 (.cells a7 30 f7) b = some o := fun b o h => withBlock_old n7 b o (hZY b o (hZ b o h))
  rw [← setE_split hrf] at hv7
  clear hone hN7
  generalize withBlock Y b7 (.cells a7 30 f7) = Y7 at *
  rw [show vs.map CV.val ++ CV.val (Value.slice (some ⟨b7, 0, none⟩) rf.length c7) :: ws.map CV.val = (vs ++ ([Value.slice (some ⟨b7, 0, none⟩) rf.length c7] ++ ws)).map CV.val by simp]
  generalize vs ++ ([Value.slice (some ⟨b7, 0, none⟩) rf.length c7] ++ ws) = vs7 at *
  refine LWP.freeze rfl rfl rfl ?_
  intro b8 c8 a8 f8 n8 _ _ _ sp8
  have hF := (hv7.mono (withBlock_old (o := .cells a8 58 f8) n8)).frozen (withBlock_at _ _ _) sp8
  have hinW := hin.mono fun b o h => withBlock_old (o := .cells a8 58 f8) n8 b o (hZ7 b o h)
  generalize withBlock Y7 b8 (.cells a8 58 f8) = W at *
  have hE3 := gEval W l ad cap hinW (by omega) (some ⟨b8, 0, none⟩) c8 (setE fs fn kn (xb, xN)) hF (by rw [hsl]; omega) (fun r hr => by have := (hsr r hr).1; omega) (fun r hr => (hsr r hr).2) at_ hat
  rw [hsl, hE2] at hE3
  (refine LWP.region (by kernel_rfl) <| kmv rfl <| kmv rfl <| kmv rfl <| K.build rfl rfl (by exact rfl) (by exact nl2 rfl rfl rfl) .plain ?_; refine kca rfl rfl hE3 <| kmv rfl <| kex rfl rfl <| kex rfl rfl <| K.alloc rfl .plain ?_; refine K.storeAll rfl rfl rfl rfl rfl rfl .plain ?_; refine kas rfl <| RunK.nil <| LWP.seq <| LWP.region (by kernel_rfl) <| K.loadAll rfl rfl rfl .plain ?_; refine K.loadAll rfl rfl rfl .plain ?_; refine K.aggEq rfl rfl rfl rfl (by kernel_rfl) q (.inl ⟨rfl, rfl⟩) .plain <| kmv rfl <| gmv rfl rfl rfl <| gmv rfl rfl rfl <| K.eql rfl rfl (beq_iff_eq.2 rfl) (.taken rfl rfl) ?_; refine kpt rfl rfl <| kas rfl <| RunK.nil <| LWP.ret ?_)
  exact ⟨[_], ⟨rfl, trivial⟩, rfl⟩
end Go.Proofs.YtimpjdbhalnofaaGreatDoor
end
section
namespace Go.Proofs.YtimpjdbhalnofaaGreatDoor
open Go Go.Lg Go.Lg.Fml Go.Lg.Fld Go.Lg.Arith
set_option maxRecDepth 100000
variable (X : Nat → Option Obj)
theorem inssV_append (a b : List Ins) : (inssV a).map CV.val ++ (inssV b).map CV.val = (inssV (a ++ b)).map CV.val := by
  unfold inssV
  rw [← List.map_append, ← List.flatten_append, ← List.map_append]
theorem inssV_one (l : List Ins) : ∀ u ∈ inssV l, u.oneCell' = true := fun u hu => by
  unfold inssV at hu
  rw [List.mem_flatten] at hu
  obtain ⟨q, hq, hu⟩ := hu
  obtain ⟨n, _, rfl⟩ := List.mem_map.1 hq
  unfold insV at hu
  simp only [List.mem_cons, List.not_mem_nil, or_false] at hu
  rcases hu with rfl | rfl | rfl | rfl | rfl | rfl <;> rfl
theorem ins_reads {X : Nat → Option Obj} {ad : Option Addr} {l : List Ins} (h : InsIn X ad l) : ReadsX X ad (inssV l) := reads_rows (by decide) (fun q hq => by obtain ⟨x, _, rfl⟩ := List.mem_map.1 hq; rfl) h.rows
theorem ins_some {X : Nat → Option Obj} {ad : Option Addr} {l : List Ins} (h : InsIn X ad l) (hl : l ≠ []) : ∃ a, ad = some a := by
  cases l with
  | nil => exact absurd rfl hl
  | cons x t =>
    obtain ⟨blk, off, _, _, _, h1, _⟩ := h.at (i := 0) (x := x) rfl
    exact ⟨_, h1⟩
theorem exE_ok {r : Except Int Nm} {v : Nm} (h : r = .ok v) : exE r = 0 ∧ exV r = v := by rw [h]; exact ⟨rfl, rfl⟩
set_option maxHeartbeats 12800000 in
theorem ExprJoins_spec (hTab : XTab X) (a b : List Ins) (ad bd : Option Addr) (ca cb : Nat) (hina : InsIn X ad a) (hinb : InsIn X bd b) (hla : a.length < 9223372036854775808) (hlb : b.length < 9223372036854775808) (op : Int) (hop : -9223372036854775808 ≤ op ∧ op < 9223372036854775808) (fad : Option Addr) (fcap : Nat) (fs : List (List Nm)) (hfs : FssIn X fad fs) (hfl : fs.length < 9223372036854775808) (hrb : ∀ r ∈ fs, r.length < 9223372036854775808) (at_ : Int) (hat : -9223372036854775808 ≤ at_ ∧ at_ < 9223372036854775808) :
    PSpec Tryz.prog X 7 [Lx ad a.length ca, Lx bd b.length cb, Ln .i64 op, Lx fad fs.length fcap, Ln .i64 at_] (Lb true) := by
  have hW := awake11_spec X hTab
  have hG := great11_spec X [] none 0 fad fcap fs hfs (by decide) hfl hrb
  have hf2 : ∀ r ∈ fs, ∀ u ∈ r, In2 u.2 := fun r hr u hu => by
    obtain ⟨i, hi, e⟩ := List.getElem_of_mem hr
    obtain ⟨_, _, _, _, _, _, _, _, _, _, _, hN⟩ := hfs.at_ i r (by rw [List.getElem?_eq_getElem hi, e])
    exact hN.in2 u hu
  refine PSpec.intro Tryz.func7 rfl (by kernel_rfl) rfl rfl ?_
  intro C
  by_cases h1 : 30 < a.length
  · (refine LWP.seq <| LWP.region (by kernel_rfl) <| kas rfl <| RunK.nil <| LWP.seq <| LWP.seq <| LWP.region (by kernel_rfl) <| kca rfl rfl (hW) <| K.not rfl rfl .plain <| RunK.nil <| LWP.condF rfl ?_; refine LWP.skip ?_; refine LWP.seq <| LWP.seq <| LWP.region (by kernel_rfl) <| kmv rfl <| K.lenX rfl SliceT.h rfl .plain ?_; refine K.gtr rfl rfl (decide_eq_true (by omega)) .plain <| kmv rfl <| RunK.passed rfl rfl rfl <| RunK.passed rfl rfl rfl <| RunK.passed rfl rfl rfl <| kpt rfl rfl <| kmv rfl <| RunK.passed rfl rfl rfl <| RunK.passed rfl rfl rfl <| kpt rfl rfl <| kmv rfl <| RunK.passed rfl rfl rfl <| RunK.passed rfl rfl rfl <| RunK.passed rfl rfl rfl ?_; refine kpt rfl rfl <| kmv rfl <| RunK.passed rfl rfl rfl <| RunK.passed rfl rfl rfl <| RunK.passed rfl rfl rfl <| kpt rfl rfl <| RunK.nil <| LWP.condT rfl ?_; refine LWP.seq <| LWP.region (by kernel_rfl) <| kas rfl <| RunK.nil <| LWP.ret ?_)
    exact ⟨[_], ⟨rfl, trivial⟩, rfl⟩
  by_cases h2 : 30 < b.length
  · (refine LWP.seq <| LWP.region (by kernel_rfl) <| kas rfl <| RunK.nil <| LWP.seq <| LWP.seq <| LWP.region (by kernel_rfl) <| kca rfl rfl (hW) <| K.not rfl rfl .plain <| RunK.nil <| LWP.condF rfl ?_; refine LWP.skip ?_; refine LWP.seq <| LWP.seq <| LWP.region (by kernel_rfl) <| kmv rfl <| K.lenX rfl SliceT.h rfl .plain ?_; refine K.gtr rfl rfl (decide_eq_false (by omega)) .plain <| kmv rfl <| gmv rfl rfl rfl <| K.lenX rfl SliceT.h rfl (.taken rfl rfl) ?_; refine K.gtr rfl rfl (decide_eq_true (by omega)) (.taken rfl rfl) ?_; refine kpf rfl rfl <| kmv rfl <| RunK.passed rfl rfl rfl <| RunK.passed rfl rfl rfl <| kpt rfl rfl <| kmv rfl <| RunK.passed rfl rfl rfl <| RunK.passed rfl rfl rfl <| RunK.passed rfl rfl rfl <| kpt rfl rfl <| kmv rfl <| RunK.passed rfl rfl rfl <| RunK.passed rfl rfl rfl <| RunK.passed rfl rfl rfl ?_; refine kpt rfl rfl <| RunK.nil <| LWP.condT rfl ?_; refine LWP.seq <| LWP.region (by kernel_rfl) <| kas rfl <| RunK.nil <| LWP.ret ?_)
    exact ⟨[_], ⟨rfl, trivial⟩, rfl⟩
  cases hg : grt [] fs with
  | true =>
    rw [hg] at hG
    (refine LWP.seq <| LWP.region (by kernel_rfl) <| kas rfl <| RunK.nil <| LWP.seq <| LWP.seq <| LWP.region (by kernel_rfl) <| kca rfl rfl (hW) <| K.not rfl rfl .plain <| RunK.nil <| LWP.condF rfl ?_; refine LWP.skip ?_; refine LWP.seq <| LWP.seq <| LWP.region (by kernel_rfl) <| kmv rfl <| K.lenX rfl SliceT.h rfl .plain ?_; refine K.gtr rfl rfl (decide_eq_false (by omega)) .plain <| kmv rfl <| gmv rfl rfl rfl <| K.lenX rfl SliceT.h rfl (.taken rfl rfl) ?_; refine K.gtr rfl rfl (decide_eq_false (by omega)) (.taken rfl rfl) ?_; refine kpf rfl rfl <| kmv rfl <| gmv rfl rfl rfl <| gca rfl rfl (hG) rfl rfl <| kpf rfl rfl <| kmv rfl <| RunK.passed rfl rfl rfl <| RunK.passed rfl rfl rfl <| RunK.passed rfl rfl rfl <| kpt rfl rfl <| kmv rfl <| RunK.passed rfl rfl rfl <| RunK.passed rfl rfl rfl <| RunK.passed rfl rfl rfl ?_; refine kpt rfl rfl <| RunK.nil <| LWP.condT rfl ?_; refine LWP.seq <| LWP.region (by kernel_rfl) <| kas rfl <| RunK.nil <| LWP.ret ?_)
    exact ⟨[_], ⟨rfl, trivial⟩, rfl⟩
  | false =>
  rw [hg] at hG
  obtain ⟨_, h12, h20⟩ := grt_false hg
  have hCa := gCheck X a ad ca hina (by omega)
  have hCb := gCheck X b bd cb hinb (by omega)
  by_cases za : chkX a = 0
  case neg =>
    generalize chkX a = k at *
    (refine LWP.seq <| LWP.region (by kernel_rfl) <| kas rfl <| RunK.nil <| LWP.seq <| LWP.seq <| LWP.region (by kernel_rfl) <| kca rfl rfl (hW) <| K.not rfl rfl .plain <| RunK.nil <| LWP.condF rfl ?_; refine LWP.skip ?_; refine LWP.seq <| LWP.seq <| LWP.region (by kernel_rfl) <| kmv rfl <| K.lenX rfl SliceT.h rfl .plain ?_; refine K.gtr rfl rfl (decide_eq_false (by omega)) .plain <| kmv rfl <| gmv rfl rfl rfl <| K.lenX rfl SliceT.h rfl (.taken rfl rfl) ?_; refine K.gtr rfl rfl (decide_eq_false (by omega)) (.taken rfl rfl) ?_; refine kpf rfl rfl <| kmv rfl <| gmv rfl rfl rfl <| gca rfl rfl (hG) rfl rfl <| kpf rfl rfl <| kmv rfl <| gmv rfl rfl rfl <| gca rfl rfl hCa rfl rfl <| K.neq rfl rfl (bne_iff_ne.2 za) (.taken rfl rfl) ?_; refine kpf rfl rfl <| kmv rfl <| RunK.passed rfl rfl rfl <| RunK.passed rfl rfl rfl <| RunK.passed rfl rfl rfl <| kpt rfl rfl <| RunK.nil <| LWP.condT rfl ?_; refine LWP.seq <| LWP.region (by kernel_rfl) <| kas rfl <| RunK.nil <| LWP.ret ?_)
    exact ⟨[_], ⟨rfl, trivial⟩, rfl⟩
  have hCa0 := hCa
  rw [za] at hCa0
  by_cases zb : chkX b = 0
  case neg =>
    generalize chkX b = k at *
    (refine LWP.seq <| LWP.region (by kernel_rfl) <| kas rfl <| RunK.nil <| LWP.seq <| LWP.seq <| LWP.region (by kernel_rfl) <| kca rfl rfl (hW) <| K.not rfl rfl .plain <| RunK.nil <| LWP.condF rfl ?_; refine LWP.skip ?_; refine LWP.seq <| LWP.seq <| LWP.region (by kernel_rfl) <| kmv rfl <| K.lenX rfl SliceT.h rfl .plain ?_; refine K.gtr rfl rfl (decide_eq_false (by omega)) .plain <| kmv rfl <| gmv rfl rfl rfl <| K.lenX rfl SliceT.h rfl (.taken rfl rfl) ?_; refine K.gtr rfl rfl (decide_eq_false (by omega)) (.taken rfl rfl) ?_; refine kpf rfl rfl <| kmv rfl <| gmv rfl rfl rfl <| gca rfl rfl (hG) rfl rfl <| kpf rfl rfl <| kmv rfl <| gmv rfl rfl rfl <| gca rfl rfl hCa0 rfl rfl <| K.neq rfl rfl (r := false) rfl (.taken rfl rfl) ?_; refine kpf rfl rfl <| kmv rfl <| gmv rfl rfl rfl <| gca rfl rfl hCb rfl rfl <| K.neq rfl rfl (bne_iff_ne.2 zb) (.taken rfl rfl) ?_; refine kpf rfl rfl <| RunK.nil <| LWP.condT rfl ?_; refine LWP.seq <| LWP.region (by kernel_rfl) <| kas rfl <| RunK.nil <| LWP.ret ?_)
    exact ⟨[_], ⟨rfl, trivial⟩, rfl⟩
  have hCb0 := hCb
  rw [zb] at hCb0
  obtain ⟨aa, rfl⟩ := ins_some hina (chkX_ne za)
  obtain ⟨bb, rfl⟩ := ins_some hinb (chkX_ne zb)
  have hEa := gEval X a (some aa) ca hina (by omega) fad fcap fs hfs (by omega) (fun r hr => by have := h20 r hr; omega) hf2 at_ hat
  have hEb := gEval X b (some bb) cb hinb (by omega) fad fcap fs hfs (by omega) (fun r hr => by have := h20 r hr; omega) hf2 at_ hat
  rw [exR_eq] at hEa hEb
  have hua := exV_in2 (l := a) (fs := fs) (at_ := at_) (fun x hx => (hina.small x hx).2.2.2) hf2 hat.2
  have hub := exV_in2 (l := b) (fs := fs) (at_ := at_) (fun x hx => (hinb.small x hx).2.2.2) hf2 hat.2
  have hoa : ∀ v, evX a fs at_ = .ok v → exE (evX a fs at_) = 0 ∧ exV (evX a fs at_) = v := fun v h => exE_ok h
  have hob : ∀ v, evX b fs at_ = .ok v → exE (evX b fs at_) = 0 ∧ exV (evX b fs at_) = v := fun v h => exE_ok h
  have hna : ∀ e, evX a fs at_ = .error e → exE (evX a fs at_) ≠ 0 := fun e h => by rw [h]; exact evX_err h
  have hnb : ∀ e, evX b fs at_ = .error e → exE (evX b fs at_) ≠ 0 := fun e h => by rw [h]; exact evX_err h
  have hJ := fun (o : Int) (h : chkX (a ++ (b ++ [⟨o, 0, 0, (false, 0)⟩])) = 0) (ho : 5 ≤ o ∧ o ≤ 9) => evX_joins (fs := fs) (at_ := at_) (x := ⟨o, 0, 0, (false, 0)⟩) za zb h ho
  generalize exV (evX a fs at_) = u at *
  generalize exE (evX a fs at_) = ea at *
  generalize exV (evX b fs at_) = v at *
  generalize exE (evX b fs at_) = eb at *
  obtain ⟨ub, uN⟩ := u
  obtain ⟨vb, vN⟩ := v
  have hw1 : IntKind.u64.wrap op = (((op % 18446744073709551616).toNat : Nat) : Int) := by rw [IntKind.wrap_u64]; omega
  generalize (op % 18446744073709551616).toNat = q at *
  have hrem : ((q : Nat) : Int).tmod 5 = ((q % 5 : Nat) : Int) := by
    rw [show (5 : Int) = ((5 : Nat) : Int) from rfl, Int.tmod_eq_emod_of_nonneg (by omega)]
    exact (Int.natCast_emod q 5).symm
  have hj5 : q % 5 < 5 := Nat.mod_lt _ (by decide)
  generalize q % 5 = j at *
  have hw2 : IntKind.i64.wrap ((j : Nat) : Int) = ((j : Nat) : Int) := wrap_i64 (by omega)
  have hadd : IntKind.i64.wrap (5 + ((j : Nat) : Int)) = 5 + ((j : Nat) : Int) := wrap_i64 (by omega)
  have hra := ins_reads hina
  have hrb2 := ins_reads hinb
  have hal := inssV_len a
  have hbl := inssV_len b
  rw [List.length_map] at hal hbl
  have hab := inssV_append a b
  have habl := inssV_len (a ++ b)
  rw [List.length_append] at habl
  have hx1 := inssV_snoc (a ++ b) ⟨5 + ((j : Nat) : Int), 0, 0, (false, 0)⟩ (cs := [.val (.int .i64 (5 + ((j : Nat) : Int))), .val (.int .i64 0), .val (.int .i64 0), .val (.bool false), .val (.int .u64 0), .val (.int .u64 0)]) rfl
  rw [List.append_assoc] at hx1
  ((refine LWP.seq <| LWP.region (by kernel_rfl) <| kas rfl <| RunK.nil <| LWP.seq <| LWP.seq <| LWP.region (by kernel_rfl) <| kca rfl rfl (hW) <| K.not rfl rfl .plain <| RunK.nil <| LWP.condF rfl ?_; refine LWP.skip ?_; refine LWP.seq <| LWP.seq <| LWP.region (by kernel_rfl) <| kmv rfl <| K.lenX rfl SliceT.h rfl .plain ?_; refine K.gtr rfl rfl (decide_eq_false (by omega)) .plain <| kmv rfl <| gmv rfl rfl rfl <| K.lenX rfl SliceT.h rfl (.taken rfl rfl) ?_; refine K.gtr rfl rfl (decide_eq_false (by omega)) (.taken rfl rfl) ?_; refine kpf rfl rfl <| kmv rfl <| gmv rfl rfl rfl <| gca rfl rfl (hG) rfl rfl <| kpf rfl rfl <| kmv rfl <| gmv rfl rfl rfl <| gca rfl rfl hCa0 rfl rfl <| K.neq rfl rfl (r := false) rfl (.taken rfl rfl) ?_; refine kpf rfl rfl <| kmv rfl <| gmv rfl rfl rfl <| gca rfl rfl hCb0 rfl rfl <| K.neq rfl rfl (r := false) rfl (.taken rfl rfl) ?_; refine kpf rfl rfl <| RunK.nil <| LWP.condF rfl ?_; refine LWP.skip ?_; refine LWP.seq <| LWP.region (by kernel_rfl) <| kmv rfl <| kmv rfl <| K.build rfl rfl (by exact rfl) (by exact nl2 rfl rfl rfl) .plain ?_; refine K.alloc rfl .plain ?_; refine K.storeAll rfl rfl rfl rfl rfl rfl .plain ?_); (refine RunK.nil <| LWP.seq <| LWP.region (by kernel_rfl) <| kmv rfl <| K.loadAll rfl rfl rfl .plain ?_; refine kca rfl rfl hEa <| kmv rfl <| kex rfl rfl <| kex rfl rfl <| K.alloc rfl .plain ?_; refine K.storeAll rfl rfl rfl rfl rfl rfl .plain ?_; refine kas rfl <| RunK.nil <| LWP.seq <| LWP.region (by kernel_rfl) <| kmv rfl <| K.loadAll rfl rfl rfl .plain ?_; refine kca rfl rfl hEb <| kmv rfl <| kex rfl rfl <| kex rfl rfl <| K.alloc rfl .plain ?_; refine K.storeAll rfl rfl rfl rfl rfl rfl .plain ?_; refine kas rfl <| RunK.nil <| LWP.seq <| LWP.region (by kernel_rfl) <| K.buildSlc (zs := []) (sz := 6) (e := 44) (by kernel_rfl) rfl rfl rfl rfl rfl rfl .plain <| kmv rfl <| K.appendX (by_ := 48) (e2 := 44) (news := inssV a) (nl := a.length) (nc := (inssV a).map .val) rfl rfl rfl rfl hra hal (inssV_one a) (by kernel_rfl) (by kernel_rfl) (by omega) (by omega) rfl (Nat.zero_add _) (List.nil_append _) .plain ?_; refine kmv rfl <| K.appendX (by_ := 48) (e2 := 44) (news := inssV b) (nl := a.length + b.length) (nc := (inssV (a ++ b)).map .val) rfl rfl (inssV_len a) rfl hrb2 hbl (inssV_one b) (by kernel_rfl) (by kernel_rfl) (by omega) (by omega) rfl rfl hab .plain ?_; refine kmv rfl <| kcv rfl hw1 ?_; refine K.rem rfl rfl (by decide) hrem .plain <| kcv rfl hw2 ?_; refine kad rfl rfl hadd <| K.build rfl rfl (by exact rfl) (by exact nl6 rfl rfl rfl rfl rfl rfl rfl) .plain ?_; refine K.buildSlc (zs := izs) (sz := 6) (e := 44) (cs' := [.val (.int .i64 (5 + ((j : Nat) : Int))), .val (.int .i64 0), .val (.int .i64 0), .val (.bool false), .val (.int .u64 0), .val (.int .u64 0)]) (by kernel_rfl) rfl rfl rfl rfl rfl rfl .plain <| K.appendSlc (by_ := 48) (e2 := 44) (l2 := [.val (.int .i64 (5 + ((j : Nat) : Int))), .val (.int .i64 0), .val (.int .i64 0), .val (.bool false), .val (.int .u64 0), .val (.int .u64 0)]) (nl := a.length + b.length + 1) (nc := (inssV (a ++ (b ++ [⟨5 + ((j : Nat) : Int), 0, 0, (false, 0)⟩]))).map .val) rfl rfl habl rfl rfl (Nat.le_refl _) rfl rfl (by kernel_rfl) (by kernel_rfl) (by omega) (by omega) rfl rfl hx1 .plain <| kas rfl <| RunK.nil <| LWP.seq <| LWP.seq ?_))
  refine LWP.le (σ' := ⟨[(16, .sv (.one (.slc 500 0 (a.length + b.length + 1) 6))), (2, Ln .i64 op), (11, Lp 11), (12, Lp 12), (13, Ln .i64 ea), (14, Lp 14), (15, Ln .i64 eb)], [(500, some ⟨44, (inssV (a ++ (b ++ [⟨5 + ((j : Nat) : Int), 0, 0, (false, 0)⟩]))).map .val, true⟩), (11, some ⟨35, [.val (.slice fad fs.length fcap), .val (.int .i64 at_)], false⟩), (12, some ⟨30, cI ub uN, false⟩), (14, some ⟨30, cI vb vN, false⟩)], X⟩) (Le.ofR [(500, 72), (11, 11), (12, 12), (14, 14)] (by exact ⟨rfl, rfl, rfl, rfl, rfl, rfl, rfl, trivial⟩) (by repeat' (first | exact trivial | refine And.intro ⟨_, rfl, ?_⟩ ?_ | refine And.intro ⟨_, rfl⟩ ?_ | rfl | exact Box.ren_bytes _ _ _ _ | exact Box.ren_vals _ _ _ _ | exact Box.ren_mid rfl)) (by exact rfl) (by exact rfl) (by repeat' (first | refine all_cons_true ?_ ?_ | rfl | exact bytes_inUse | exact vals_inUse | exact mid_inUse rfl)) (by exact rfl) (by exact rfl)) ?_
  refine LWP.freeze rfl rfl rfl ?_
  intro b8 c8 a8 f8 n8 _ _ _ sp8
  have hsm : ∀ x ∈ a ++ (b ++ [⟨5 + ((j : Nat) : Int), 0, 0, (false, 0)⟩]), smallI x := fun x hx => by
    rcases List.mem_append.1 hx with h | h
    · exact hina.small x h
    · rcases List.mem_append.1 h with h | h
      · exact hinb.small x h
      · rw [List.mem_singleton.1 h]
        exact ⟨by show -9223372036854775808 ≤ 5 + ((j : Nat) : Int) ∧ 5 + ((j : Nat) : Int) < _; omega, by show (-9223372036854775808 : Int) ≤ 0 ∧ (0 : Int) < 9223372036854775808; decide, by show (-9223372036854775808 : Int) ≤ 0 ∧ (0 : Int) < 9223372036854775808; decide, by show (0 : Int) ≤ 0 ∧ (0 : Int) < _; omega⟩
  have hinW : InsIn (withBlock X b8 (.cells a8 44 f8)) (some ⟨b8, 0, none⟩) (a ++ (b ++ [⟨5 + ((j : Nat) : Int), 0, 0, (false, 0)⟩])) := ins_in (withBlock_at _ _ _) hsm sp8
  have hfsW := hfs.mono (withBlock_old (o := .cells a8 44 f8) n8)
  have hJj := hJ (5 + ((j : Nat) : Int))
  have hll : (a ++ (b ++ [(⟨5 + ((j : Nat) : Int), 0, 0, (false, 0)⟩ : Ins)])).length = a.length + b.length + 1 := by simp [List.length_append]; omega
  clear hW hG hCa hCb hCa0 hCb0 hEa hEb hJ hra hrb2 hab hx1 habl
  generalize withBlock X b8 (.cells a8 44 f8) = W at *
  generalize hLL : a ++ (b ++ [(⟨5 + ((j : Nat) : Int), 0, 0, (false, 0)⟩ : Ins)]) = L at *
  have hCL := gCheck W L (some ⟨b8, 0, none⟩) c8 hinW (by omega)
  have hEL := gEval W L (some ⟨b8, 0, none⟩) c8 hinW (by omega) fad fcap fs hfsW (by omega) (fun r hr => by have := h20 r hr; omega) hf2 at_ hat
  rw [hll] at hCL hEL
  by_cases zL : chkX L = 0
  case neg =>
    generalize chkX L = k at *
    (refine LWP.region (by kernel_rfl) <| kmv rfl <| kca rfl rfl hCL <| kne rfl rfl (bne_iff_ne.2 zL) <| RunK.nil <| LWP.condT rfl ?_; refine LWP.seq <| LWP.region (by kernel_rfl) <| kas rfl <| RunK.nil <| LWP.ret ?_)
    exact ⟨[_], ⟨rfl, trivial⟩, rfl⟩
  rw [zL] at hCL
  obtain ⟨J1, J2⟩ := hJj zL (by omega)
  by_cases hboth : ∃ u' v', evX a fs at_ = .ok u' ∧ evX b fs at_ = .ok v'
  case neg =>
    obtain ⟨e', he0, hE⟩ := J2 fun u' v' h => hboth ⟨u', v', h⟩
    rw [hE] at hEL
    have hz := eqI (b := false) (b' := false) (h := 0) (h' := 0) (l := 0) (l' := 0) true (by simp)
    have hne : ea ≠ 0 ∨ eb ≠ 0 := by
      cases ha : evX a fs at_ with
      | error e => exact .inl (hna e ha)
      | ok u' =>
        cases hb : evX b fs at_ with
        | error e => exact .inr (hnb e hb)
        | ok v' => exact absurd ⟨u', v', ha, hb⟩ hboth
    by_cases hea : ea = 0
    · have heb := hne.resolve_left (fun h => h hea)
      subst hea
      (refine LWP.region (by kernel_rfl) <| kmv rfl <| kca rfl rfl hCL <| kne rfl rfl (r := false) rfl <| RunK.nil <| LWP.condF rfl ?_; refine LWP.skip ?_; refine LWP.seq <| LWP.region (by kernel_rfl) <| kmv rfl <| K.loadAll rfl rfl rfl .plain ?_; refine kca rfl rfl hEL <| kmv rfl <| kex rfl rfl <| kex rfl rfl <| K.alloc rfl .plain ?_; refine K.storeAll rfl rfl rfl rfl rfl rfl .plain ?_; refine kas rfl <| RunK.nil <| LWP.seq <| LWP.seq <| LWP.region (by kernel_rfl) <| kmv rfl <| kne rfl rfl (r := false) rfl <| kmv rfl <| gmv rfl rfl rfl <| K.neq rfl rfl (bne_iff_ne.2 heb) (.taken rfl rfl) ?_; refine kpf rfl rfl <| RunK.nil <| LWP.condT rfl ?_; refine LWP.seq <| LWP.region (by kernel_rfl) <| kmv rfl <| kne rfl rfl (bne_iff_ne.2 he0) <| kmv rfl <| K.loadAll rfl rfl rfl (.taken rfl rfl) ?_; refine K.build rfl rfl (by exact rfl) (by exact nl3 rfl rfl rfl rfl) (.taken rfl rfl) ?_; refine K.aggEq rfl rfl rfl rfl (by kernel_rfl) hz (.inl ⟨rfl, rfl⟩) (.taken rfl rfl) ?_; refine kpt rfl rfl <| kas rfl <| RunK.nil <| LWP.ret ?_)
      exact ⟨[_], ⟨rfl, trivial⟩, rfl⟩
    · (refine LWP.region (by kernel_rfl) <| kmv rfl <| kca rfl rfl hCL <| kne rfl rfl (r := false) rfl <| RunK.nil <| LWP.condF rfl ?_; refine LWP.skip ?_; refine LWP.seq <| LWP.region (by kernel_rfl) <| kmv rfl <| K.loadAll rfl rfl rfl .plain ?_; refine kca rfl rfl hEL <| kmv rfl <| kex rfl rfl <| kex rfl rfl <| K.alloc rfl .plain ?_; refine K.storeAll rfl rfl rfl rfl rfl rfl .plain ?_; refine kas rfl <| RunK.nil <| LWP.seq <| LWP.seq <| LWP.region (by kernel_rfl) <| kmv rfl <| kne rfl rfl (bne_iff_ne.2 hea) <| kmv rfl <| RunK.passed rfl rfl rfl <| RunK.passed rfl rfl rfl <| kpt rfl rfl <| RunK.nil <| LWP.condT rfl ?_; refine LWP.seq <| LWP.region (by kernel_rfl) <| kmv rfl <| kne rfl rfl (bne_iff_ne.2 he0) <| kmv rfl <| K.loadAll rfl rfl rfl (.taken rfl rfl) ?_; refine K.build rfl rfl (by exact rfl) (by exact nl3 rfl rfl rfl rfl) (.taken rfl rfl) ?_; refine K.aggEq rfl rfl rfl rfl (by kernel_rfl) hz (.inl ⟨rfl, rfl⟩) (.taken rfl rfl) ?_; refine kpt rfl rfl <| kas rfl <| RunK.nil <| LWP.ret ?_)
      exact ⟨[_], ⟨rfl, trivial⟩, rfl⟩
  obtain ⟨u', v', ha, hb⟩ := hboth
  obtain ⟨rfl, hu'⟩ := hoa u' ha
  obtain ⟨rfl, hv'⟩ := hob v' hb
  rw [J1 u' v' ha hb, ← hu', ← hv', exR_eq] at hEL
  have hin2 : In2 uN := hua
  have hin3 : In2 vN := hub
  have hA := wAdd_do W (ub, uN) (vb, vN) hin2 hin3
  rw [exR_eq] at hA
  by_cases hj0 : j = 0
  · subst hj0
    rw [show (5 : Int) + ((0 : Nat) : Int) = 5 from rfl] at hEL
    generalize exV (doX 5 (ub, uN) (vb, vN)) = t at *
    generalize exE (doX 5 (ub, uN) (vb, vN)) = te at *
    obtain ⟨tb, tN⟩ := t
    have q := eqI (b := tb) (b' := tb) (h := tN / 18446744073709551616) (h' := tN / 18446744073709551616) (l := tN % 18446744073709551616) (l' := tN % 18446744073709551616) true (by simp)
    ((refine LWP.region (by kernel_rfl) <| kmv rfl <| kca rfl rfl hCL <| kne rfl rfl (r := false) rfl <| RunK.nil <| LWP.condF rfl ?_; refine LWP.skip ?_; refine LWP.seq <| LWP.region (by kernel_rfl) <| kmv rfl <| K.loadAll rfl rfl rfl .plain ?_; refine kca rfl rfl hEL <| kmv rfl <| kex rfl rfl <| kex rfl rfl <| K.alloc rfl .plain ?_; refine K.storeAll rfl rfl rfl rfl rfl rfl .plain ?_; refine kas rfl <| RunK.nil <| LWP.seq <| LWP.seq <| LWP.region (by kernel_rfl) <| kmv rfl <| kne rfl rfl (r := false) rfl <| kmv rfl <| gmv rfl rfl rfl <| K.neq rfl rfl (r := false) rfl (.taken rfl rfl) ?_; refine kpf rfl rfl <| RunK.nil <| LWP.condF rfl ?_; refine LWP.skip ?_; refine LWP.seq <| LWP.region (by kernel_rfl) <| K.loadAll rfl rfl rfl .plain ?_; refine K.loadAll rfl rfl rfl .plain ?_; refine kca rfl rfl hA <| kmv rfl <| kex rfl rfl <| kex rfl rfl <| K.alloc rfl .plain ?_; refine K.storeAll rfl rfl rfl rfl rfl rfl .plain ?_); (refine kas rfl <| RunK.nil <| LWP.seq <| LWP.seq <| LWP.region (by kernel_rfl) <| kmv rfl <| kcv rfl hw1 ?_; refine K.rem rfl rfl (by decide) hrem .plain <| RunK.nil <| LWP.block <| LWP.seq <| LWP.region (by kernel_rfl) <| keq rfl rfl (r := false) rfl <| kas rfl <| RunK.nil <| LWP.condF rfl ?_; refine LWP.seq <| LWP.region (by kernel_rfl) <| keq rfl rfl (r := false) rfl <| kas rfl <| RunK.nil <| LWP.condF rfl ?_; refine LWP.seq <| LWP.region (by kernel_rfl) <| keq rfl rfl (r := false) rfl <| kas rfl <| RunK.nil <| LWP.condF rfl ?_; refine LWP.seq <| LWP.region (by kernel_rfl) <| keq rfl rfl (r := false) rfl <| kas rfl <| RunK.nil <| LWP.condF rfl ?_; refine LWP.skip ?_; refine LWP.seq <| LWP.region (by kernel_rfl) <| K.loadAll rfl rfl rfl .plain ?_; refine K.loadAll rfl rfl rfl .plain ?_; refine K.aggEq rfl rfl rfl rfl (by kernel_rfl) q (.inl ⟨rfl, rfl⟩) .plain <| kmv rfl <| gmv rfl rfl rfl <| gmv rfl rfl rfl <| K.eql rfl rfl (beq_iff_eq.2 rfl) (.taken rfl rfl) ?_; refine kpt rfl rfl <| kas rfl <| RunK.nil <| LWP.ret ?_))
    exact ⟨[_], ⟨rfl, trivial⟩, rfl⟩
  by_cases hj1 : j = 1
  · subst hj1
    rw [show (5 : Int) + ((1 : Nat) : Int) = 6 from rfl] at hEL
    have hB := wSub_do W (ub, uN) (vb, vN) hin2 hin3
    rw [exR_eq] at hB
    generalize exV (doX 5 (ub, uN) (vb, vN)) = s at *
    generalize exE (doX 5 (ub, uN) (vb, vN)) = se at *
    obtain ⟨sb, sN⟩ := s
    generalize exV (doX 6 (ub, uN) (vb, vN)) = t at *
    generalize exE (doX 6 (ub, uN) (vb, vN)) = te at *
    obtain ⟨tb, tN⟩ := t
    have q := eqI (b := tb) (b' := tb) (h := tN / 18446744073709551616) (h' := tN / 18446744073709551616) (l := tN % 18446744073709551616) (l' := tN % 18446744073709551616) true (by simp)
    ((refine LWP.region (by kernel_rfl) <| kmv rfl <| kca rfl rfl hCL <| kne rfl rfl (r := false) rfl <| RunK.nil <| LWP.condF rfl ?_; refine LWP.skip ?_; refine LWP.seq <| LWP.region (by kernel_rfl) <| kmv rfl <| K.loadAll rfl rfl rfl .plain ?_; refine kca rfl rfl hEL <| kmv rfl <| kex rfl rfl <| kex rfl rfl <| K.alloc rfl .plain ?_; refine K.storeAll rfl rfl rfl rfl rfl rfl .plain ?_; refine kas rfl <| RunK.nil <| LWP.seq <| LWP.seq <| LWP.region (by kernel_rfl) <| kmv rfl <| kne rfl rfl (r := false) rfl <| kmv rfl <| gmv rfl rfl rfl <| K.neq rfl rfl (r := false) rfl (.taken rfl rfl) ?_; refine kpf rfl rfl <| RunK.nil <| LWP.condF rfl ?_; refine LWP.skip ?_; refine LWP.seq <| LWP.region (by kernel_rfl) <| K.loadAll rfl rfl rfl .plain ?_; refine K.loadAll rfl rfl rfl .plain ?_; refine kca rfl rfl hA <| kmv rfl <| kex rfl rfl <| kex rfl rfl <| K.alloc rfl .plain ?_; refine K.storeAll rfl rfl rfl rfl rfl rfl .plain ?_); (refine kas rfl <| RunK.nil <| LWP.seq <| LWP.seq <| LWP.region (by kernel_rfl) <| kmv rfl <| kcv rfl hw1 ?_; refine K.rem rfl rfl (by decide) hrem .plain <| RunK.nil <| LWP.block <| LWP.seq <| LWP.region (by kernel_rfl) <| keq rfl rfl (r := true) rfl <| kas rfl <| RunK.nil <| LWP.condT rfl ?_; refine LWP.region (by kernel_rfl) <| K.loadAll rfl rfl rfl .plain ?_; refine K.loadAll rfl rfl rfl .plain ?_; refine kca rfl rfl hB <| kmv rfl <| kex rfl rfl <| kex rfl rfl <| K.storeAll rfl rfl rfl rfl rfl rfl .plain ?_; refine kas rfl <| RunK.nil <| LWP.seq <| LWP.region (by kernel_rfl) <| K.loadAll rfl rfl rfl .plain ?_; refine K.loadAll rfl rfl rfl .plain ?_; refine K.aggEq rfl rfl rfl rfl (by kernel_rfl) q (.inl ⟨rfl, rfl⟩) .plain <| kmv rfl <| gmv rfl rfl rfl <| gmv rfl rfl rfl <| K.eql rfl rfl (beq_iff_eq.2 rfl) (.taken rfl rfl) ?_; refine kpt rfl rfl <| kas rfl <| RunK.nil <| LWP.ret ?_))
    exact ⟨[_], ⟨rfl, trivial⟩, rfl⟩
  by_cases hj2 : j = 2
  · subst hj2
    rw [show (5 : Int) + ((2 : Nat) : Int) = 7 from rfl] at hEL
    have hB := wMul_do W (ub, uN) (vb, vN) hin2 hin3
    rw [exR_eq] at hB
    generalize exV (doX 5 (ub, uN) (vb, vN)) = s at *
    generalize exE (doX 5 (ub, uN) (vb, vN)) = se at *
    obtain ⟨sb, sN⟩ := s
    generalize exV (doX 7 (ub, uN) (vb, vN)) = t at *
    generalize exE (doX 7 (ub, uN) (vb, vN)) = te at *
    obtain ⟨tb, tN⟩ := t
    have q := eqI (b := tb) (b' := tb) (h := tN / 18446744073709551616) (h' := tN / 18446744073709551616) (l := tN % 18446744073709551616) (l' := tN % 18446744073709551616) true (by simp)
    ((refine LWP.region (by kernel_rfl) <| kmv rfl <| kca rfl rfl hCL <| kne rfl rfl (r := false) rfl <| RunK.nil <| LWP.condF rfl ?_; refine LWP.skip ?_; refine LWP.seq <| LWP.region (by kernel_rfl) <| kmv rfl <| K.loadAll rfl rfl rfl .plain ?_; refine kca rfl rfl hEL <| kmv rfl <| kex rfl rfl <| kex rfl rfl <| K.alloc rfl .plain ?_; refine K.storeAll rfl rfl rfl rfl rfl rfl .plain ?_; refine kas rfl <| RunK.nil <| LWP.seq <| LWP.seq <| LWP.region (by kernel_rfl) <| kmv rfl <| kne rfl rfl (r := false) rfl <| kmv rfl <| gmv rfl rfl rfl <| K.neq rfl rfl (r := false) rfl (.taken rfl rfl) ?_; refine kpf rfl rfl <| RunK.nil <| LWP.condF rfl ?_; refine LWP.skip ?_; refine LWP.seq <| LWP.region (by kernel_rfl) <| K.loadAll rfl rfl rfl .plain ?_; refine K.loadAll rfl rfl rfl .plain ?_; refine kca rfl rfl hA <| kmv rfl <| kex rfl rfl <| kex rfl rfl <| K.alloc rfl .plain ?_; refine K.storeAll rfl rfl rfl rfl rfl rfl .plain ?_); (refine kas rfl <| RunK.nil <| LWP.seq <| LWP.seq <| LWP.region (by kernel_rfl) <| kmv rfl <| kcv rfl hw1 ?_; refine K.rem rfl rfl (by decide) hrem .plain <| RunK.nil <| LWP.block <| LWP.seq <| LWP.region (by kernel_rfl) <| keq rfl rfl (r := false) rfl <| kas rfl <| RunK.nil <| LWP.condF rfl ?_; refine LWP.seq <| LWP.region (by kernel_rfl) <| keq rfl rfl (r := true) rfl <| kas rfl <| RunK.nil <| LWP.condT rfl ?_; refine LWP.region (by kernel_rfl) <| K.loadAll rfl rfl rfl .plain ?_; refine K.loadAll rfl rfl rfl .plain ?_; refine kca rfl rfl hB <| kmv rfl <| kex rfl rfl <| kex rfl rfl <| K.storeAll rfl rfl rfl rfl rfl rfl .plain ?_; refine kas rfl <| RunK.nil <| LWP.seq <| LWP.region (by kernel_rfl) <| K.loadAll rfl rfl rfl .plain ?_; refine K.loadAll rfl rfl rfl .plain ?_; refine K.aggEq rfl rfl rfl rfl (by kernel_rfl) q (.inl ⟨rfl, rfl⟩) .plain <| kmv rfl <| gmv rfl rfl rfl <| gmv rfl rfl rfl <| K.eql rfl rfl (beq_iff_eq.2 rfl) (.taken rfl rfl) ?_; refine kpt rfl rfl <| kas rfl <| RunK.nil <| LWP.ret ?_))
    exact ⟨[_], ⟨rfl, trivial⟩, rfl⟩
  by_cases hj3 : j = 3
  · subst hj3
    rw [show (5 : Int) + ((3 : Nat) : Int) = 8 from rfl] at hEL
    have hB := wQuo_do W (ub, uN) (vb, vN) hin2 hin3
    rw [exR_eq] at hB
    generalize exV (doX 5 (ub, uN) (vb, vN)) = s at *
    generalize exE (doX 5 (ub, uN) (vb, vN)) = se at *
    obtain ⟨sb, sN⟩ := s
    generalize exV (doX 8 (ub, uN) (vb, vN)) = t at *
    generalize exE (doX 8 (ub, uN) (vb, vN)) = te at *
    obtain ⟨tb, tN⟩ := t
    have q := eqI (b := tb) (b' := tb) (h := tN / 18446744073709551616) (h' := tN / 18446744073709551616) (l := tN % 18446744073709551616) (l' := tN % 18446744073709551616) true (by simp)
    ((refine LWP.region (by kernel_rfl) <| kmv rfl <| kca rfl rfl hCL <| kne rfl rfl (r := false) rfl <| RunK.nil <| LWP.condF rfl ?_; refine LWP.skip ?_; refine LWP.seq <| LWP.region (by kernel_rfl) <| kmv rfl <| K.loadAll rfl rfl rfl .plain ?_; refine kca rfl rfl hEL <| kmv rfl <| kex rfl rfl <| kex rfl rfl <| K.alloc rfl .plain ?_; refine K.storeAll rfl rfl rfl rfl rfl rfl .plain ?_; refine kas rfl <| RunK.nil <| LWP.seq <| LWP.seq <| LWP.region (by kernel_rfl) <| kmv rfl <| kne rfl rfl (r := false) rfl <| kmv rfl <| gmv rfl rfl rfl <| K.neq rfl rfl (r := false) rfl (.taken rfl rfl) ?_; refine kpf rfl rfl <| RunK.nil <| LWP.condF rfl ?_; refine LWP.skip ?_; refine LWP.seq <| LWP.region (by kernel_rfl) <| K.loadAll rfl rfl rfl .plain ?_; refine K.loadAll rfl rfl rfl .plain ?_; refine kca rfl rfl hA <| kmv rfl <| kex rfl rfl <| kex rfl rfl <| K.alloc rfl .plain ?_; refine K.storeAll rfl rfl rfl rfl rfl rfl .plain ?_); (refine kas rfl <| RunK.nil <| LWP.seq <| LWP.seq <| LWP.region (by kernel_rfl) <| kmv rfl <| kcv rfl hw1 ?_; refine K.rem rfl rfl (by decide) hrem .plain <| RunK.nil <| LWP.block <| LWP.seq <| LWP.region (by kernel_rfl) <| keq rfl rfl (r := false) rfl <| kas rfl <| RunK.nil <| LWP.condF rfl ?_; refine LWP.seq <| LWP.region (by kernel_rfl) <| keq rfl rfl (r := false) rfl <| kas rfl <| RunK.nil <| LWP.condF rfl ?_; refine LWP.seq <| LWP.region (by kernel_rfl) <| keq rfl rfl (r := true) rfl <| kas rfl <| RunK.nil <| LWP.condT rfl ?_; refine LWP.region (by kernel_rfl) <| K.loadAll rfl rfl rfl .plain ?_; refine K.loadAll rfl rfl rfl .plain ?_; refine kca rfl rfl hB <| kmv rfl <| kex rfl rfl <| kex rfl rfl <| K.storeAll rfl rfl rfl rfl rfl rfl .plain ?_; refine kas rfl <| RunK.nil <| LWP.seq <| LWP.region (by kernel_rfl) <| K.loadAll rfl rfl rfl .plain ?_; refine K.loadAll rfl rfl rfl .plain ?_; refine K.aggEq rfl rfl rfl rfl (by kernel_rfl) q (.inl ⟨rfl, rfl⟩) .plain <| kmv rfl <| gmv rfl rfl rfl <| gmv rfl rfl rfl <| K.eql rfl rfl (beq_iff_eq.2 rfl) (.taken rfl rfl) ?_; refine kpt rfl rfl <| kas rfl <| RunK.nil <| LWP.ret ?_))
    exact ⟨[_], ⟨rfl, trivial⟩, rfl⟩
  obtain rfl : j = 4 := by omega
  rw [show (5 : Int) + ((4 : Nat) : Int) = 9 from rfl] at hEL
  have hB := wRem_do W (ub, uN) (vb, vN) hin2 hin3
  rw [exR_eq] at hB
  generalize exV (doX 5 (ub, uN) (vb, vN)) = s at *
  generalize exE (doX 5 (ub, uN) (vb, vN)) = se at *
  obtain ⟨sb, sN⟩ := s
  generalize exV (doX 9 (ub, uN) (vb, vN)) = t at *
  generalize exE (doX 9 (ub, uN) (vb, vN)) = te at *
  obtain ⟨tb, tN⟩ := t
  have q := eqI (b := tb) (b' := tb) (h := tN / 18446744073709551616) (h' := tN / 18446744073709551616) (l := tN % 18446744073709551616) (l' := tN % 18446744073709551616) true (by simp)
  ((refine LWP.region (by kernel_rfl) <| kmv rfl <| kca rfl rfl hCL <| kne rfl rfl (r := false) rfl <| RunK.nil <| LWP.condF rfl ?_; refine LWP.skip ?_; refine LWP.seq <| LWP.region (by kernel_rfl) <| kmv rfl <| K.loadAll rfl rfl rfl .plain ?_; refine kca rfl rfl hEL <| kmv rfl <| kex rfl rfl <| kex rfl rfl <| K.alloc rfl .plain ?_; refine K.storeAll rfl rfl rfl rfl rfl rfl .plain ?_; refine kas rfl <| RunK.nil <| LWP.seq <| LWP.seq <| LWP.region (by kernel_rfl) <| kmv rfl <| kne rfl rfl (r := false) rfl <| kmv rfl <| gmv rfl rfl rfl <| K.neq rfl rfl (r := false) rfl (.taken rfl rfl) ?_; refine kpf rfl rfl <| RunK.nil <| LWP.condF rfl ?_; refine LWP.skip ?_; refine LWP.seq <| LWP.region (by kernel_rfl) <| K.loadAll rfl rfl rfl .plain ?_; refine K.loadAll rfl rfl rfl .plain ?_; refine kca rfl rfl hA <| kmv rfl <| kex rfl rfl <| kex rfl rfl <| K.alloc rfl .plain ?_; refine K.storeAll rfl rfl rfl rfl rfl rfl .plain ?_); (refine kas rfl <| RunK.nil <| LWP.seq <| LWP.seq <| LWP.region (by kernel_rfl) <| kmv rfl <| kcv rfl hw1 ?_; refine K.rem rfl rfl (by decide) hrem .plain <| RunK.nil <| LWP.block <| LWP.seq <| LWP.region (by kernel_rfl) <| keq rfl rfl (r := false) rfl <| kas rfl <| RunK.nil <| LWP.condF rfl ?_; refine LWP.seq <| LWP.region (by kernel_rfl) <| keq rfl rfl (r := false) rfl <| kas rfl <| RunK.nil <| LWP.condF rfl ?_; refine LWP.seq <| LWP.region (by kernel_rfl) <| keq rfl rfl (r := false) rfl <| kas rfl <| RunK.nil <| LWP.condF rfl ?_; refine LWP.seq <| LWP.region (by kernel_rfl) <| keq rfl rfl (r := true) rfl <| kas rfl <| RunK.nil <| LWP.condT rfl ?_; refine LWP.region (by kernel_rfl) <| K.loadAll rfl rfl rfl .plain ?_; refine K.loadAll rfl rfl rfl .plain ?_; refine kca rfl rfl hB <| kmv rfl <| kex rfl rfl <| kex rfl rfl <| K.storeAll rfl rfl rfl rfl rfl rfl .plain ?_; refine kas rfl <| RunK.nil <| LWP.seq <| LWP.region (by kernel_rfl) <| K.loadAll rfl rfl rfl .plain ?_; refine K.loadAll rfl rfl rfl .plain ?_; refine K.aggEq rfl rfl rfl rfl (by kernel_rfl) q (.inl ⟨rfl, rfl⟩) .plain <| kmv rfl <| gmv rfl rfl rfl <| gmv rfl rfl rfl <| K.eql rfl rfl (beq_iff_eq.2 rfl) (.taken rfl rfl) ?_; refine kpt rfl rfl <| kas rfl <| RunK.nil <| LWP.ret ?_))
  exact ⟨[_], ⟨rfl, trivial⟩, rfl⟩
end Go.Proofs.YtimpjdbhalnofaaGreatDoor
end
