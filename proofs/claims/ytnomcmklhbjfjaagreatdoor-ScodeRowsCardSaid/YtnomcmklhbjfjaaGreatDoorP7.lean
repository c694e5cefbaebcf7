/- A piece of a proof over this program: contracts of its functions, and a logic to prove them by. -/
import Derived.Test.YtnomcmklhbjfjaaGreatDoorP3
import Derived.Test.YtnomcmklhbjfjaaGreatDoorP5
import Derived.Test.YtnomcmklhbjfjaaGreatDoorP6
section
namespace Go.Lg.Fld
open Go Go.Lg
end Go.Lg.Fld
namespace Go.Proofs.YtnomcmklhbjfjaaGreatDoor
open Go Go.Lg Go.Lg.Fld
set_option maxRecDepth 100000
section
variable {P : Program} {n : Nat} {C : Ctx} {c : Code} {Q : Exit → St → Prop} {X : Nat → Option Obj} {s : List (Nat × LV)} {bx : List (Nat × Option Box)} {k j : Nat}
abbrev syB (j : Nat) (ver : Int) (cv : CV) : Nat × Option Box := (j, some ⟨24, [.val (.int .i64 ver), cv], false⟩)
end
end Go.Proofs.YtnomcmklhbjfjaaGreatDoor
end
section
namespace Go.Lg.Fld
open Go Go.Lg
theorem getCs_step : ∀ {i : Nat} {b r r2 : List UInt8} {cs : List Cp} {c : Cp}, getCs i b = some (cs, r) → getC r = some (c, r2) → getCs (i + 1) b = some (cs ++ [c], r2)
  | 0, b, r, r2, cs, c, h, hc => by
    simp only [getCs, Option.some.injEq, Prod.mk.injEq] at h
    obtain ⟨rfl, rfl⟩ := h
    simp only [getCs, hc, List.nil_append]
  | i + 1, b, r, r2, cs, c, h, hc => by
    rw [getCs] at h
    rw [getCs]
    cases hg : getC b with
    | none => rw [hg] at h; simp at h
    | some p =>
      obtain ⟨d, b2⟩ := p
      rw [hg] at h
      simp only at h ⊢
      cases hk : getCs i b2 with
      | none => rw [hk] at h; simp at h
      | some q =>
        obtain ⟨ds, b3⟩ := q
        rw [hk] at h
        simp only [Option.some.injEq, Prod.mk.injEq] at h
        obtain ⟨rfl, rfl⟩ := h
        rw [getCs_step hk hc]
        rfl
theorem getCs_fail : ∀ {i k : Nat} {b r : List UInt8} {cs : List Cp}, getCs i b = some (cs, r) → getC r = none → getCs (i + 1 + k) b = none
  | 0, k, b, r, cs, h, hc => by
    simp only [getCs, Option.some.injEq, Prod.mk.injEq] at h
    obtain ⟨rfl, rfl⟩ := h
    rw [show 0 + 1 + k = k + 1 by omega, getCs, hc]
  | i + 1, k, b, r, cs, h, hc => by
    rw [getCs] at h
    rw [show i + 1 + 1 + k = (i + 1 + k) + 1 by omega, getCs]
    cases hg : getC b with
    | none => rfl
    | some p =>
      obtain ⟨d, b2⟩ := p
      rw [hg] at h
      simp only at h ⊢
      cases hk : getCs i b2 with
      | none => rw [hk] at h; simp at h
      | some q =>
        obtain ⟨ds, b3⟩ := q
        rw [hk] at h
        simp only [Option.some.injEq, Prod.mk.injEq] at h
        obtain ⟨rfl, rfl⟩ := h
        rw [getCs_fail hk hc]
theorem getFs_step : ∀ {i : Nat} {b r r2 : List UInt8} {cs : List Fl} {c : Fl}, getFs i b = some (cs, r) → getF r = some (c, r2) → getFs (i + 1) b = some (cs ++ [c], r2)
  | 0, b, r, r2, cs, c, h, hc => by
    simp only [getFs, Option.some.injEq, Prod.mk.injEq] at h
    obtain ⟨rfl, rfl⟩ := h
    simp only [getFs, hc, List.nil_append]
  | i + 1, b, r, r2, cs, c, h, hc => by
    rw [getFs] at h
    rw [getFs]
    cases hg : getF b with
    | none => rw [hg] at h; simp at h
    | some p =>
      obtain ⟨d, b2⟩ := p
      rw [hg] at h
      simp only at h ⊢
      cases hk : getFs i b2 with
      | none => rw [hk] at h; simp at h
      | some q =>
        obtain ⟨ds, b3⟩ := q
        rw [hk] at h
        simp only [Option.some.injEq, Prod.mk.injEq] at h
        obtain ⟨rfl, rfl⟩ := h
        rw [getFs_step hk hc]
        rfl
theorem getFs_fail : ∀ {i k : Nat} {b r : List UInt8} {cs : List Fl}, getFs i b = some (cs, r) → getF r = none → getFs (i + 1 + k) b = none
  | 0, k, b, r, cs, h, hc => by
    simp only [getFs, Option.some.injEq, Prod.mk.injEq] at h
    obtain ⟨rfl, rfl⟩ := h
    rw [show 0 + 1 + k = k + 1 by omega, getFs, hc]
  | i + 1, k, b, r, cs, h, hc => by
    rw [getFs] at h
    rw [show i + 1 + 1 + k = (i + 1 + k) + 1 by omega, getFs]
    cases hg : getF b with
    | none => rfl
    | some p =>
      obtain ⟨d, b2⟩ := p
      rw [hg] at h
      simp only at h ⊢
      cases hk : getFs i b2 with
      | none => rw [hk] at h; simp at h
      | some q =>
        obtain ⟨ds, b3⟩ := q
        rw [hk] at h
        simp only [Option.some.injEq, Prod.mk.injEq] at h
        obtain ⟨rfl, rfl⟩ := h
        rw [getFs_fail hk hc]
theorem decS_some {v0 v1 v2 v3 n : UInt8} {r : List UInt8} {cs : List Cp} (h : getCs n.toNat r = some (cs, [])) : decS (83 :: v0 :: v1 :: v2 :: v3 :: n :: r) = if chkE ⟨verOf v0 v1 v2 v3, cs⟩ = 0 then some ⟨verOf v0 v1 v2 v3, cs⟩ else none := by
  unfold decS
  simp only
  rw [if_pos trivial, h]
theorem decS_none {v0 v1 v2 v3 n : UInt8} {r : List UInt8} (h : getCs n.toNat r = none) : decS (83 :: v0 :: v1 :: v2 :: v3 :: n :: r) = none := by
  unfold decS
  simp only
  rw [if_pos trivial, h]
theorem decS_rest {v0 v1 v2 v3 n : UInt8} {r r2 : List UInt8} {cs : List Cp} (h : getCs n.toNat r = some (cs, r2)) (h2 : r2 ≠ []) : decS (83 :: v0 :: v1 :: v2 :: v3 :: n :: r) = none := by
  unfold decS
  simp only
  rw [if_pos trivial, h]
  cases r2 with
  | nil => exact absurd rfl h2
  | cons a t => rfl
theorem decS_head {m : UInt8} {r : List UInt8} (h : m ≠ 83) : decS (m :: r) = none := by
  unfold decS
  split
  · rename_i e
    simp only [List.cons.injEq] at e
    obtain ⟨rfl, _⟩ := e
    rw [if_neg h]
  · rfl
theorem decS_short {l : List UInt8} (h : l.length < 6) : decS l = none := by
  unfold decS
  split
  · simp only [List.length_cons] at h; omega
  · rfl
theorem getC_nil : getC [] = none := rfl
theorem getC_noT {i : UInt8} {r : List UInt8} (h : getT r = none) : getC (i :: r) = none := by unfold getC; simp only [h]
theorem getC_noN {i : UInt8} {r nm : List UInt8} (h : getT r = some (nm, [])) : getC (i :: r) = none := by unfold getC; simp only [h]
theorem getC_noF {i m : UInt8} {r nm r2 : List UInt8} (h : getT r = some (nm, m :: r2)) (h2 : getFs m.toNat r2 = none) : getC (i :: r) = none := by unfold getC; simp only [h, h2]
theorem getC_yes {i m : UInt8} {r nm r2 r3 : List UInt8} {fs : List Fl} (h : getT r = some (nm, m :: r2)) (h2 : getFs m.toNat r2 = some (fs, r3)) : getC (i :: r) = some (⟨(i.toNat : Nat), nm, fs⟩, r3) := by unfold getC; simp only [h, h2]
theorem getF_noT {r : List UInt8} (h : getT r = none) : getF r = none := by unfold getF; simp only [h]
theorem getF_short {r nm t : List UInt8} (h : getT r = some (nm, t)) (ht : t.length < 2) : getF r = none := by
  unfold getF
  match t, ht with
  | [], _ => simp only [h]
  | [a], _ => simp only [h]
  | _ :: _ :: _, ht => simp only [List.length_cons] at ht; omega
theorem getF_yes {r nm t : List UInt8} {k c : UInt8} (h : getT r = some (nm, k :: c :: t)) : getF r = some (⟨nm, (k.toNat : Nat), (c.toNat : Nat)⟩, t) := by unfold getF; simp only [h]
theorem flV_snoc (fs : List Fl) (f : Fl) : flV (fs ++ [f]) = flV fs ++ f.vals := by unfold flV; rw [List.map_append, List.flatten_append]; simp
theorem rowsZ_add {cs : List Cp} {cells : List Value} {c : Cp} {v : Value} (h : cells.length = cs.length) : rowsZ (cs ++ [c]) (cells ++ [v]) = rowsZ cs cells ++ [.int .i64 c.id, .string ⟨c.nm.toArray⟩, v] := by rw [rowsZ_app h]; rfl
end Go.Lg.Fld
namespace Go.Proofs.YtnomcmklhbjfjaaGreatDoor
open Go Go.Lg Go.Lg.Fld
set_option maxRecDepth 100000
def decR (l : List UInt8) : LV := match decS l with
  | none => .tup [.agg [.val (.int .i64 0), .val (.slice none 0 0)], Sb false]
  | some s => .tup [.agg [.val (.int .i64 s.ver), if s.cs.length = 0 then .val (.slice none 0 0) else .slc 1000001 0 s.cs.length 3], Sb true]
def decBx (l : List UInt8) : List (Nat × Option Box) := match decS l with
  | none => []
  | some s => if s.cs.length = 0 then [] else [scB 1000001 s.cs]
theorem decR_none {l : List UInt8} (h : decS l = none) : decR l = .tup [.agg [.val (.int .i64 0), .val (.slice none 0 0)], Sb false] ∧ decBx l = [] := by unfold decR decBx; rw [h]; exact ⟨rfl, rfl⟩
theorem decR_nil {l : List UInt8} {s : Sc} (h : decS l = some s) (h0 : s.cs.length = 0) : decR l = .tup [.agg [.val (.int .i64 s.ver), .val (.slice none 0 0)], Sb true] ∧ decBx l = [] := by
  unfold decR decBx; rw [h]; simp only; rw [if_pos h0, if_pos h0]; exact ⟨rfl, rfl⟩
theorem decR_some {l : List UInt8} {s : Sc} (h : decS l = some s) (h0 : s.cs.length ≠ 0) : decR l = .tup [.agg [.val (.int .i64 s.ver), .slc 1000001 0 s.cs.length 3], Sb true] ∧ decBx l = [scB 1000001 s.cs] := by
  unfold decR decBx; rw [h]; simp only; rw [if_neg h0, if_neg h0]; exact ⟨rfl, rfl⟩
variable (X : Nat → Option Obj)
theorem ref_check_lent {S : Nat → Option (Option Box)} {ver : Int} {k : Nat} {cs : List Cp} {cells : List Value} {el : TypeId} {row : Bool} {e : Int} (hl : cells.length = cs.length) (hb : ∀ c ∈ cs, -9223372036854775808 ≤ c.id ∧ c.id < 9223372036854775808)
    (hf : ∀ (i : Nat) (c : Cp) (v : Value), cs[i]? = some c → cells[i]? = some v → ∃ fad fcap, v = .slice fad c.fs.length fcap ∧ FieldsIn X fad c.fs) (h1 : cs.length < 4611686018427387904) (h2 : ∀ c ∈ cs, c.fs.length < 4611686018427387904) (hk : S k = some (some ⟨el, (rowsZ cs cells).map .val, row⟩)) (he : chkE ⟨ver, cs⟩ = e) :
    ∀ (Y : Nat → Option Obj) (us : List Value), (∀ b o, X b = some o → Y b = some o) → LentLs S Y [.sv (.agg [.val (.int .i64 ver), .slc k 0 cs.length 3])] us → PSpec Tryz.prog Y 10 (us.map toLV) (Ln .i64 e) := by
  intro Y us hY hL
  obtain ⟨u1, us1, rfl, ⟨av, rfl, a1, av1, rfl, g1, a2, av2, rfl, g2, rfl⟩, rfl⟩ := hL
  have g1 : a1 = .int .i64 ver := g1
  subst g1
  obtain ⟨blk, cap, rfl, hin⟩ := lent_comps X hY hl hb hf hk g2
  have := sCheck_spec Y ⟨ver, cs⟩ (some ⟨blk, 0, none⟩) cap hin h1 h2
  rw [he] at this
  exact this
end Go.Proofs.YtnomcmklhbjfjaaGreatDoor
end
section
namespace Go.Lg.Fld
open Go Go.Lg
def tSm : List UInt8 × Bool → UInt8 × List UInt8 × Bool
  | (c :: t, false) => (c, t, false)
  | (l, _) => (0, l, true)
def tNm : List UInt8 × Bool → List UInt8 × List UInt8 × Bool
  | (c :: t, false) => if c.toNat ≤ t.length then (t.take c.toNat, t.drop c.toNat, false) else ([], t, true)
  | (l, _) => ([], l, true)
def tVe : List UInt8 × Bool → Nat × List UInt8 × Bool
  | (l, b) => if b = false ∧ 4 ≤ l.length then (Go.Lg.le (l.take 4), l.drop 4, false) else (0, l, true)
def tF (x : List UInt8 × Bool) : Fl × List UInt8 × Bool := (⟨(tNm x).1, ((tSm (tNm x).2).1.toNat : Nat), ((tSm (tSm (tNm x).2).2).1.toNat : Nat)⟩, (tSm (tSm (tNm x).2).2).2)
def tFs (x : List UInt8 × Bool) : Nat → List Fl × List UInt8 × Bool
  | 0 => ([], x)
  | n + 1 => ((tFs x n).1 ++ [(tF (tFs x n).2).1], (tF (tFs x n).2).2)
def tC (x : List UInt8 × Bool) : Cp × List UInt8 × Bool :=
  (⟨((tSm x).1.toNat : Nat), (tNm (tSm x).2).1, (tFs (tSm (tNm (tSm x).2).2).2 (tSm (tNm (tSm x).2).2).1.toNat).1⟩, (tFs (tSm (tNm (tSm x).2).2).2 (tSm (tNm (tSm x).2).2).1.toNat).2)
def tCs (x : List UInt8 × Bool) : Nat → List Cp × List UInt8 × Bool
  | 0 => ([], x)
  | n + 1 => ((tCs x n).1 ++ [(tC (tCs x n).2).1], (tC (tCs x n).2).2)
def Less (x y : List UInt8 × Bool) : Prop := y.1.length ≤ x.1.length ∧ (x.2 = true → y.2 = true)
theorem Less.rfl' (x : List UInt8 × Bool) : Less x x := ⟨Nat.le_refl _, id⟩
theorem Less.trans {x y z : List UInt8 × Bool} (h : Less x y) (h' : Less y z) : Less x z := ⟨Nat.le_trans h'.1 h.1, fun e => h'.2 (h.2 e)⟩
theorem tSm_less (x : List UInt8 × Bool) : Less x (tSm x).2 := by
  obtain ⟨l, b⟩ := x
  cases b <;> cases l <;> simp [tSm, Less]
theorem tNm_less (x : List UInt8 × Bool) : Less x (tNm x).2 := by
  obtain ⟨l, b⟩ := x
  cases b with
  | true => cases l <;> simp [tNm, Less]
  | false => cases l with
    | nil => simp [tNm, Less]
    | cons c t =>
      simp only [tNm]
      split
      · exact ⟨by simp only [List.length_drop, List.length_cons]; omega, fun h => (by cases h)⟩
      · exact ⟨by simp only [List.length_cons]; omega, fun _ => rfl⟩
theorem tVe_less (x : List UInt8 × Bool) : Less x (tVe x).2 := by
  obtain ⟨l, b⟩ := x
  unfold tVe
  simp only
  by_cases h : b = false ∧ 4 ≤ l.length
  · rw [if_pos h]; exact ⟨by simp only [List.length_drop]; omega, fun e => (by rw [h.1] at e; cases e)⟩
  · rw [if_neg h]; exact ⟨Nat.le_refl _, fun _ => rfl⟩
theorem tNm_lt (x : List UInt8 × Bool) : (tNm x).1.length < 256 := by
  obtain ⟨l, b⟩ := x
  cases b with
  | true => cases l <;> simp [tNm]
  | false => cases l with
    | nil => simp [tNm]
    | cons c t =>
      simp only [tNm]
      split
      · have := c.toNat_lt; simp only [List.length_take]; omega
      · simp
theorem tF_less (x : List UInt8 × Bool) : Less x (tF x).2 := ((tNm_less x).trans (tSm_less _)).trans (tSm_less _)
theorem tFs_less (x : List UInt8 × Bool) : ∀ n, Less x (tFs x n).2
  | 0 => Less.rfl' x
  | n + 1 => (tFs_less x n).trans (tF_less _)
theorem tC_less (x : List UInt8 × Bool) : Less x (tC x).2 := (((tSm_less x).trans (tNm_less _)).trans (tSm_less _)).trans (tFs_less _ _)
theorem tCs_less (x : List UInt8 × Bool) : ∀ n, Less x (tCs x n).2
  | 0 => Less.rfl' x
  | n + 1 => (tCs_less x n).trans (tC_less _)
theorem tFs_len (x : List UInt8 × Bool) : ∀ n, (tFs x n).1.length = n
  | 0 => rfl
  | n + 1 => by simp only [tFs, List.length_append, List.length_singleton]; rw [tFs_len x n]
theorem tCs_len (x : List UInt8 × Bool) : ∀ n, (tCs x n).1.length = n
  | 0 => rfl
  | n + 1 => by simp only [tCs, List.length_append, List.length_singleton]; rw [tCs_len x n]
theorem tF_ok (x : List UInt8 × Bool) : okF (tF x).1 := by
  have h1 := tNm_lt x
  have h2 := (tSm (tNm x).2).1.toNat_lt
  have h3 := (tSm (tSm (tNm x).2).2).1.toNat_lt
  exact ⟨h1, ⟨by unfold tF; simp only; omega, by unfold tF; simp only; omega⟩, ⟨by unfold tF; simp only; omega, by unfold tF; simp only; omega⟩⟩
theorem tFs_ok (x : List UInt8 × Bool) : ∀ n, ∀ f ∈ (tFs x n).1, okF f
  | 0 => fun f hf => (by simp [tFs] at hf)
  | n + 1 => fun f hf => by
    simp only [tFs, List.mem_append, List.mem_singleton] at hf
    rcases hf with hf | rfl
    · exact tFs_ok x n f hf
    · exact tF_ok _
theorem tC_ok (x : List UInt8 × Bool) : okC (tC x).1 := by
  have h1 := (tSm x).1.toNat_lt
  have h2 := tNm_lt (tSm x).2
  have h3 := (tSm (tNm (tSm x).2).2).1.toNat_lt
  exact ⟨⟨by unfold tC; simp only; omega, by unfold tC; simp only; omega⟩, h2, by unfold tC; simp only; rw [tFs_len]; omega, tFs_ok _ _⟩
theorem tCs_ok (x : List UInt8 × Bool) : ∀ n, ∀ c ∈ (tCs x n).1, okC c
  | 0 => fun f hf => (by simp [tCs] at hf)
  | n + 1 => fun f hf => by
    simp only [tCs, List.mem_append, List.mem_singleton] at hf
    rcases hf with hf | rfl
    · exact tCs_ok x n f hf
    · exact tC_ok _
theorem tNm_get (l : List UInt8) : (∃ nm r, tNm (l, false) = (nm, r, false) ∧ getT l = some (nm, r)) ∨ ((tNm (l, false)).2.2 = true ∧ getT l = none) := by
  cases l with
  | nil => exact .inr ⟨rfl, rfl⟩
  | cons c t =>
    simp only [tNm, getT]
    split
    · exact .inl ⟨_, _, rfl, rfl⟩
    · exact .inr ⟨rfl, rfl⟩
theorem tSm_bad {x : List UInt8 × Bool} (h : x.2 = true) : (tSm x).2.2 = true := (tSm_less x).2 h
theorem tF_get (l : List UInt8) : (∃ f r, tF (l, false) = (f, r, false) ∧ getF l = some (f, r)) ∨ ((tF (l, false)).2.2 = true ∧ getF l = none) := by
  rcases tNm_get l with ⟨nm, r, h1, h2⟩ | ⟨h1, h2⟩
  · unfold tF getF
    rw [h1, h2]
    simp only
    match r with
    | [] => exact .inr ⟨by simp [tSm], rfl⟩
    | [k] => exact .inr ⟨by simp [tSm], rfl⟩
    | k :: c :: r2 => exact .inl ⟨_, _, by simp only [tSm], rfl⟩
  · refine .inr ⟨?_, by unfold getF; rw [h2]⟩
    exact tSm_bad (tSm_bad h1)
theorem getFs_none : ∀ {n : Nat} {b : List UInt8}, getFs n b = none → getFs (n + 1) b = none
  | 0, b, h => by simp [getFs] at h
  | n + 1, b, h => by
    unfold getFs at h ⊢
    cases hf : getF b with
    | none => rfl
    | some p =>
      obtain ⟨f, r⟩ := p
      rw [hf] at h
      simp only at h ⊢
      cases hk : getFs n r with
      | none => rw [getFs_none hk]
      | some q => rw [hk] at h; simp at h
theorem getCs_none : ∀ {n : Nat} {b : List UInt8}, getCs n b = none → getCs (n + 1) b = none
  | 0, b, h => by simp [getCs] at h
  | n + 1, b, h => by
    unfold getCs at h ⊢
    cases hf : getC b with
    | none => rfl
    | some p =>
      obtain ⟨f, r⟩ := p
      rw [hf] at h
      simp only at h ⊢
      cases hk : getCs n r with
      | none => rw [getCs_none hk]
      | some q => rw [hk] at h; simp at h
theorem tFs_get (l : List UInt8) : ∀ n, (∃ fs r, tFs (l, false) n = (fs, r, false) ∧ getFs n l = some (fs, r)) ∨ ((tFs (l, false) n).2.2 = true ∧ getFs n l = none)
  | 0 => .inl ⟨_, _, rfl, rfl⟩
  | n + 1 => by
    rcases tFs_get l n with ⟨fs, r, h1, h2⟩ | ⟨h1, h2⟩
    · rcases tF_get r with ⟨f, r2, h3, h4⟩ | ⟨h3, h4⟩
      · refine .inl ⟨fs ++ [f], r2, ?_, getFs_step h2 h4⟩
        simp only [tFs, h1, h3]
      · refine .inr ⟨?_, getFs_fail (k := 0) h2 h4⟩
        simp only [tFs, h1, h3]
    · exact .inr ⟨(tF_less _).2 h1, getFs_none h2⟩
theorem tC_get (l : List UInt8) : (∃ c r, tC (l, false) = (c, r, false) ∧ getC l = some (c, r)) ∨ ((tC (l, false)).2.2 = true ∧ getC l = none) := by
  cases l with
  | nil =>
    refine .inr ⟨?_, rfl⟩
    exact (tFs_less _ _).2 (tSm_bad ((tNm_less _).2 rfl))
  | cons i r =>
    have e1 : tSm (i :: r, false) = (i, r, false) := rfl
    rcases tNm_get r with ⟨nm, r1, h1, h2⟩ | ⟨h1, h2⟩
    · cases r1 with
      | nil =>
        refine .inr ⟨?_, by unfold getC; simp only [h2]⟩
        unfold tC
        rw [e1, h1]
        exact (tFs_less _ _).2 rfl
      | cons m r2 =>
        have e2 : tSm (m :: r2, false) = (m, r2, false) := rfl
        rcases tFs_get r2 m.toNat with ⟨fs, r3, h3, h4⟩ | ⟨h3, h4⟩
        · refine .inl ⟨⟨(i.toNat : Nat), nm, fs⟩, r3, ?_, by unfold getC; simp only [h2, h4]⟩
          simp only [tC, e1, h1, e2, h3]
        · refine .inr ⟨?_, by unfold getC; simp only [h2, h4]⟩
          simp only [tC, e1, h1, e2, h3]
    · refine .inr ⟨?_, by unfold getC; simp only [h2]⟩
      unfold tC
      rw [e1]
      exact (tFs_less _ _).2 (tSm_bad h1)
theorem tCs_get (l : List UInt8) : ∀ n, (∃ fs r, tCs (l, false) n = (fs, r, false) ∧ getCs n l = some (fs, r)) ∨ ((tCs (l, false) n).2.2 = true ∧ getCs n l = none)
  | 0 => .inl ⟨_, _, rfl, rfl⟩
  | n + 1 => by
    rcases tCs_get l n with ⟨fs, r, h1, h2⟩ | ⟨h1, h2⟩
    · rcases tC_get r with ⟨f, r2, h3, h4⟩ | ⟨h3, h4⟩
      · refine .inl ⟨fs ++ [f], r2, ?_, getCs_step h2 h4⟩
        simp only [tCs, h1, h3]
      · refine .inr ⟨?_, getCs_fail (k := 0) h2 h4⟩
        simp only [tCs, h1, h3]
    · exact .inr ⟨(tC_less _).2 h1, getCs_none h2⟩
theorem le4_ver (a b c d : UInt8) : ((Go.Lg.le [a, b, c, d] : Nat) : Int) = verOf a b c d := by
  simp only [Go.Lg.le, verOf]
  omega
theorem tVe_yes {l : List UInt8} (h : 4 ≤ l.length) : tVe (l, false) = (Go.Lg.le (l.take 4), l.drop 4, false) := if_pos ⟨rfl, h⟩
theorem tVe_lt (x : List UInt8 × Bool) : (tVe x).1 < 4294967296 := by
  obtain ⟨l, b⟩ := x
  unfold tVe
  simp only
  by_cases h : b = false ∧ 4 ≤ l.length
  · rw [if_pos h]
    have h := Go.Lg.le_lt (l.take 4)
    have h2 : (256 : Nat) ^ (l.take 4).length ≤ 256 ^ 4 := Nat.pow_le_pow_right (by decide) (by rw [List.length_take]; omega)
    simp only
    omega
  · rw [if_neg h]; show 0 < 4294967296; decide
def tA (l : List UInt8) : UInt8 × Sc × List UInt8 × Bool :=
  ((tSm (l, false)).1, ⟨((tVe (tSm (l, false)).2).1 : Nat), (tCs (tSm (tVe (tSm (l, false)).2).2).2 (tSm (tVe (tSm (l, false)).2).2).1.toNat).1⟩, (tCs (tSm (tVe (tSm (l, false)).2).2).2 (tSm (tVe (tSm (l, false)).2).2).1.toNat).2)
theorem decS_t (l : List UInt8) : decS l = if (tA l).2.2 = ([], false) ∧ (tA l).1 = 83 ∧ chkE (tA l).2.1 = 0 then some (tA l).2.1 else none := by
  by_cases h6 : l.length < 6
  · rw [decS_short h6, if_neg]
    rintro ⟨h, _⟩
    have hbad : (tA l).2.2.2 = true := by
      unfold tA
      refine (tCs_less _ _).2 ?_
      cases l with
      | nil => exact tSm_bad ((tVe_less _).2 rfl)
      | cons c t =>
        rw [show tSm (c :: t, false) = (c, t, false) from rfl]
        simp only [List.length_cons] at h6
        by_cases h4 : 4 ≤ t.length
        · rw [show tVe (t, false) = (Go.Lg.le (t.take 4), t.drop 4, false) from if_pos ⟨rfl, h4⟩]
          rw [show t.drop 4 = [] from List.drop_eq_nil_of_le (by omega)]; rfl
        · rw [show tVe (t, false) = (0, t, true) from if_neg fun h => h4 h.2]
          exact tSm_bad rfl
    rw [h] at hbad
    cases hbad
  obtain ⟨m0, v0, v1, v2, v3, nb, r, rfl⟩ : ∃ m0 v0 v1 v2 v3 nb r, l = m0 :: v0 :: v1 :: v2 :: v3 :: nb :: r := by
    match l, h6 with
    | m0 :: v0 :: v1 :: v2 :: v3 :: nb :: r, _ => exact ⟨m0, v0, v1, v2, v3, nb, r, rfl⟩
    | [], h => exact absurd (by simp) h
    | [_], h => exact absurd (by simp) h
    | [_, _], h => exact absurd (by simp) h
    | [_, _, _], h => exact absurd (by simp) h
    | [_, _, _, _], h => exact absurd (by simp) h
    | [_, _, _, _, _], h => exact absurd (by simp) h
  have hA : tA (m0 :: v0 :: v1 :: v2 :: v3 :: nb :: r) = (m0, ⟨verOf v0 v1 v2 v3, (tCs (r, false) nb.toNat).1⟩, (tCs (r, false) nb.toNat).2) := by
    unfold tA
    rw [show tSm (m0 :: v0 :: v1 :: v2 :: v3 :: nb :: r, false) = (m0, v0 :: v1 :: v2 :: v3 :: nb :: r, false) from rfl]
    rw [show tVe (v0 :: v1 :: v2 :: v3 :: nb :: r, false) = (Go.Lg.le ((v0 :: v1 :: v2 :: v3 :: nb :: r).take 4), (v0 :: v1 :: v2 :: v3 :: nb :: r).drop 4, false) from tVe_yes (by simp only [List.length_cons]; omega), show (v0 :: v1 :: v2 :: v3 :: nb :: r).take 4 = [v0, v1, v2, v3] from rfl, show (v0 :: v1 :: v2 :: v3 :: nb :: r).drop 4 = nb :: r from rfl]
    rw [show tSm (nb :: r, false) = (nb, r, false) from rfl]
    simp only
    rw [le4_ver]
  rw [hA]
  simp only
  by_cases hm : m0 = 83
  · subst hm
    rcases tCs_get r nb.toNat with ⟨cs, r2, h1, h2⟩ | ⟨h1, h2⟩
    · rw [h1]
      simp only
      by_cases hr : r2 = []
      · subst hr
        rw [decS_some h2]
        by_cases hz : chkE ⟨verOf v0 v1 v2 v3, cs⟩ = 0
        · rw [if_pos hz, if_pos ⟨rfl, trivial, hz⟩]
        · rw [if_neg hz, if_neg fun h => hz h.2.2]
      · rw [decS_rest h2 hr, if_neg fun h => hr (Prod.ext_iff.1 h.1).1]
    · rw [decS_none h2, if_neg]
      rintro ⟨h, _⟩
      rw [h] at h1
      cases h1
  · rw [if_neg fun h => hm h.2.1]
    unfold decS
    simp only
    rw [if_neg hm]
end Go.Lg.Fld
namespace Go.Proofs.YtnomcmklhbjfjaaGreatDoor
open Go Go.Lg Go.Lg.Fld
set_option maxRecDepth 100000
variable (X : Nat → Option Obj)
theorem Num1_t (l : List UInt8) (b : Bool) (hl : l.length < 4611686018427387904) : MSpec Tryz.prog X 31 [Lp 1000000, Ln .i64 1] (rd 1000000 l b) (Ln .u64 ((tSm (l, b)).1.toNat : Nat)) (rd 1000000 (tSm (l, b)).2.1 (tSm (l, b)).2.2) := by
  cases b with
  | true => have h := Num_no X l true 1 rfl; cases l <;> exact h
  | false => cases l with
    | nil => exact Num_no X [] false 1 rfl
    | cons c t =>
      have h1 := Num_ok X (c :: t) 1 rfl (by simp) hl
      rw [show ((c :: t).take 1) = [c] from rfl, show ((c :: t).drop 1) = t from rfl, show le [c] = c.toNat by simp [le]] at h1
      exact h1
theorem Num4_t (l : List UInt8) (b : Bool) (hl : l.length < 4611686018427387904) : MSpec Tryz.prog X 31 [Lp 1000000, Ln .i64 4] (rd 1000000 l b) (Ln .u64 ((tVe (l, b)).1 : Nat)) (rd 1000000 (tVe (l, b)).2.1 (tVe (l, b)).2.2) := by
  by_cases h : b = false ∧ 4 ≤ l.length
  · rw [show tVe (l, b) = (Go.Lg.le (l.take 4), l.drop 4, false) from if_pos h]
    obtain ⟨rfl, h4⟩ := h
    exact Num_ok X l 4 rfl h4 hl
  · rw [show tVe (l, b) = (0, l, true) from if_neg h]
    refine Num_no X l b 4 ?_
    unfold rawOk
    cases b with
    | true => rfl
    | false => rw [decide_eq_false (by simp only [true_and] at h; omega)]; rfl
theorem Name_t (l : List UInt8) (b : Bool) (hl : l.length < 4611686018427387904) : MSpec Tryz.prog X 57 [Lp 1000000] (rd 1000000 l b) (Ls (tNm (l, b)).1) (rd 1000000 (tNm (l, b)).2.1 (tNm (l, b)).2.2) := by
  by_cases hb : (isW 1 && rawOk l b 1) = false
  · have e : tNm (l, b) = ([], l, true) := by
      cases b with
      | true => cases l <;> rfl
      | false => cases l with
        | nil => rfl
        | cons c t => exact absurd hb (by unfold rawOk; rw [decide_eq_true (by simp only [List.length_cons]; omega)]; decide)
    rw [e]
    refine MSpec.intro Tryz.func57 rfl (by kernel_rfl) rfl rfl rfl rfl rfl ?_
    intro C
    have h1 := Num_no X l b 1 hb
    (refine LWP.seq <| LWP.region (by kernel_rfl) <| kas rfl <| RunK.nil <| LWP.seq <| LWP.region (by kernel_rfl) <| kmv rfl <| kmv rfl <| K.callM [] (rd 1000000 l true) (h1) rfl rfl (by exact (And.intro ⟨_, rfl, rfl⟩ trivial)) (by exact (all_cons_true (all_cons_true rfl (all_cons_true rfl rfl)) rfl)) rfl rfl rfl rfl (by exact (.box rfl rfl .nil)) .plain <| kcv rfl (by exact wrap_i64 (by omega)) ?_; refine K.callM [] (rd 1000000 l true) (Raw_no X l true 0 rfl) rfl rfl (by exact (And.intro ⟨_, rfl, rfl⟩ trivial)) (by exact (all_cons_true (all_cons_true rfl (all_cons_true rfl rfl)) rfl)) rfl rfl rfl rfl (by exact (.box rfl rfl .nil)) .plain <| kas rfl <| RunK.nil <| LWP.ret ?_)
    exact ⟨[], ⟨[_], ⟨rfl, trivial⟩, rfl⟩, ⟨⟨_, rfl, rfl⟩, trivial⟩, rfl, rfl⟩
  · cases b with
    | true => exact absurd rfl hb
    | false =>
      cases l with
      | nil => exact absurd rfl hb
      | cons c t =>
        by_cases hc : c.toNat ≤ t.length
        · rw [show tNm (c :: t, false) = (t.take c.toNat, t.drop c.toNat, false) from if_pos hc]
          exact Name_ok X c t hc hl
        · rw [show tNm (c :: t, false) = ([], t, true) from if_neg hc]
          have hc2 := c.toNat_lt
          have h1 := Num_ok X (c :: t) 1 rfl (by simp) hl
          rw [show ((c :: t).take 1) = [c] from rfl, show ((c :: t).drop 1) = t from rfl, show le [c] = c.toNat by simp [le]] at h1
          refine MSpec.intro Tryz.func57 rfl (by kernel_rfl) rfl rfl rfl rfl rfl ?_
          intro C
          have h2 : rawOk t false (c.toNat : Nat) = false := by unfold rawOk; rw [decide_eq_false (by omega)]; rfl
          (refine LWP.seq <| LWP.region (by kernel_rfl) <| kas rfl <| RunK.nil <| LWP.seq <| LWP.region (by kernel_rfl) <| kmv rfl <| kmv rfl <| K.callM [] (rd 1000000 t false) (h1) rfl rfl (by exact (And.intro ⟨_, rfl, rfl⟩ trivial)) (by exact (all_cons_true (all_cons_true rfl (all_cons_true rfl rfl)) rfl)) rfl rfl rfl rfl (by exact (.box rfl rfl .nil)) .plain <| kcv rfl (by exact wrap_i64 (by omega)) ?_; refine K.callM [] (rd 1000000 t true) (Raw_no X t false (c.toNat : Nat) h2) rfl rfl (by exact (And.intro ⟨_, rfl, rfl⟩ trivial)) (by exact (all_cons_true (all_cons_true rfl (all_cons_true rfl rfl)) rfl)) rfl rfl rfl rfl (by exact (.box rfl rfl .nil)) .plain <| kas rfl <| RunK.nil <| LWP.ret ?_)
          exact ⟨[], ⟨[_], ⟨rfl, trivial⟩, rfl⟩, ⟨⟨_, rfl, rfl⟩, trivial⟩, rfl, rfl⟩
theorem takeSmall_t (l : List UInt8) (b : Bool) (hl : l.length < 4611686018427387904) : MSpec Tryz.prog X 30 [Lp 1000000] (rd 1000000 l b) (Ln .i64 ((tSm (l, b)).1.toNat : Nat)) (rd 1000000 (tSm (l, b)).2.1 (tSm (l, b)).2.2) := by
  have h := Num1_t X l b hl
  have hk := (tSm (l, b)).1.toNat_lt
  generalize (tSm (l, b)).1.toNat = k at *
  generalize (tSm (l, b)).2.1 = l2 at *
  generalize (tSm (l, b)).2.2 = b2 at *
  refine MSpec.intro Tryz.func30 rfl (by kernel_rfl) rfl rfl rfl rfl rfl ?_
  intro C
  have hw : IntKind.i64.wrap ((k : Nat) : Int) = ((k : Nat) : Int) := wrap_i64 (by omega)
  (refine LWP.seq <| LWP.region (by kernel_rfl) <| kas rfl <| RunK.nil <| LWP.seq <| LWP.region (by kernel_rfl) <| kmv rfl <| K.callM [] (rd 1000000 l2 b2) (h) rfl rfl (by exact (And.intro ⟨_, rfl, rfl⟩ trivial)) (by exact (all_cons_true (all_cons_true rfl (all_cons_true rfl rfl)) rfl)) rfl rfl rfl rfl (by exact (.box rfl rfl .nil)) .plain <| kcv rfl hw ?_; refine kas rfl <| RunK.nil <| LWP.ret ?_)
  exact ⟨[], ⟨[_], ⟨rfl, trivial⟩, rfl⟩, ⟨⟨_, rfl, rfl⟩, trivial⟩, rfl, rfl⟩
theorem takeField_t (l : List UInt8) (b : Bool) (hl : l.length < 4611686018427387904) : MSpec Tryz.prog X 58 [Lp 1000000] (rd 1000000 l b) (Fx (tF (l, b)).1) (rd 1000000 (tF (l, b)).2.1 (tF (l, b)).2.2) := by
  have h1 := Name_t X l b hl
  have g1 := tNm_less (l, b)
  unfold tF
  rcases hy1 : tNm (l, b) with ⟨nm, l1, b1⟩
  rw [hy1] at h1 g1
  have g1 : l1.length ≤ l.length := g1.1
  have h2 := takeSmall_t X l1 b1 (by omega)
  have g2 := tSm_less (l1, b1)
  simp only
  rcases hy2 : tSm (l1, b1) with ⟨k, l2, b2⟩
  rw [hy2] at h2 g2
  have g2 : l2.length ≤ l1.length := g2.1
  have h3 := takeSmall_t X l2 b2 (by omega)
  simp only
  rcases hy3 : tSm (l2, b2) with ⟨c, l3, b3⟩
  rw [hy3] at h3
  simp only at h1 h2 h3 ⊢
  refine MSpec.intro Tryz.func58 rfl (by kernel_rfl) rfl rfl rfl rfl rfl ?_
  intro C
  (refine LWP.seq <| LWP.region (by kernel_rfl) <| K.alloc rfl .plain ?_; refine RunK.nil <| LWP.seq <| LWP.region (by kernel_rfl) <| kmv rfl <| K.callM [] (rd 1000000 l1 b1) (h1) rfl rfl (by exact (And.intro ⟨_, rfl, rfl⟩ trivial)) (by exact (all_cons_true (all_cons_true rfl (all_cons_true rfl rfl)) rfl)) rfl rfl rfl rfl (by exact (.box rfl rfl .nil)) .plain <| kmv rfl <| K.callM [] (rd 1000000 l2 b2) (h2) rfl rfl (by exact (And.intro ⟨_, rfl, rfl⟩ trivial)) (by exact (all_cons_true (all_cons_true rfl (all_cons_true rfl rfl)) rfl)) rfl rfl rfl rfl (by exact (.box rfl rfl .nil)) .plain <| kmv rfl <| K.callM [] (rd 1000000 l3 b3) (h3) rfl rfl (by exact (And.intro ⟨_, rfl, rfl⟩ trivial)) (by exact (all_cons_true (all_cons_true rfl (all_cons_true rfl rfl)) rfl)) rfl rfl rfl rfl (by exact (.box rfl rfl .nil)) .plain <| K.build rfl rfl (by exact rfl) (by exact nl3 rfl rfl rfl rfl) .plain ?_; refine K.storeAll rfl rfl rfl rfl rfl rfl .plain ?_; refine RunK.nil <| LWP.ret ?_)
  exact ⟨[], ⟨[_], ⟨⟨_, _, rfl, rfl, rfl, .inl ⟨AggT.h, rfl⟩⟩, trivial⟩, rfl⟩, ⟨⟨_, rfl, rfl⟩, trivial⟩, rfl, rfl⟩
end Go.Proofs.YtnomcmklhbjfjaaGreatDoor
end
section
namespace Go.Proofs.YtnomcmklhbjfjaaGreatDoor
open Go Go.Lg Go.Lg.Fld
set_option maxRecDepth 100000
abbrev syZ (k : Nat) : Nat × Option Box := (k, some ⟨24, [.val (.int .i64 0), .val (.slice none 0 0)], false⟩)
abbrev cpX (k : Nat) (id : Int) (nm : List UInt8) (cv : CV) : Nat × Option Box := (k, some ⟨60, [.val (.int .i64 id), .val (.string ⟨nm.toArray⟩), cv], false⟩)
abbrev outSt (l : List UInt8) (at_ i : Nat) (bx : List (Nat × Option Box)) (Y : Nat → Option Obj) : St := ⟨[(0, Ls l), (2, Lp 2), (4, Lp 4), (5, Ln .i64 (at_ : Nat)), (6, Ln .i64 (i : Nat))], bx, Y⟩
abbrev inSt (l : List UInt8) (at_ i m k : Nat) (bx : List (Nat × Option Box)) (Y : Nat → Option Obj) : St := ⟨[(0, Ls l), (2, Lp 2), (4, Lp 4), (5, Ln .i64 (at_ : Nat)), (6, Ln .i64 (i : Nat)), (7, Lp 7), (10, Ln .i64 (m : Nat)), (11, Ln .i64 (k : Nat))], bx, Y⟩
theorem decBx_use (l : List UInt8) : ((decBx l).all fun p => match p.2 with | some b => b.cells.all (CV.inUse (decBx l)) | none => true) = true := by
  cases h : decS l with
  | none => rw [(decR_none h).2]; rfl
  | some s =>
    by_cases h0 : s.cs.length = 0
    · rw [(decR_nil h h0).2]; rfl
    · rw [(decR_some h h0).2]; rfl
theorem decR_use (l : List UInt8) : LV.inUse (decBx l) (decR l) = true := by
  cases h : decS l with
  | none => rw [(decR_none h).1, (decR_none h).2]; rfl
  | some s =>
    by_cases h0 : s.cs.length = 0
    · rw [(decR_nil h h0).1, (decR_nil h h0).2]; rfl
    · rw [(decR_some h h0).1, (decR_some h h0).2]; rfl
variable (X : Nat → Option Obj)
theorem twigs_in {X H : Nat → Option Obj} {cs : List Cp} {cells : List Value} {el : TypeId} (G : Twigs H el 3 [] cells (cs.map fun c => flV c.fs)) (hb : InB cs) : ∀ (i : Nat) (c : Cp) (v : Value), cs[i]? = some c → cells[i]? = some v → ∃ fad fcap, v = .slice fad c.fs.length fcap ∧ FieldsIn (joinM X H) fad c.fs := fun i c v hc hv => by
  refine leaf_in (el := el) ((G.at_ i v (flV c.fs) (by simp) hv (by rw [List.getElem?_map, hc]; rfl)).mono fun b hb' => ?_) (hb c (List.mem_of_getElem? hc)).2
  have hne := G.some_of (by simp) hv hb'
  cases hc2 : H b with
  | none => exact absurd hc2 hne
  | some o => exact joinM_in hc2
set_option maxHeartbeats 25600000 in
theorem sDecode_spec (l : List UInt8) (hb : l.length ≤ 4097) : MSpec Tryz.prog X 13 [Ls l] [] (decR l) (decBx l) := by
  refine MSpec.intro Tryz.func13 rfl (by kernel_rfl) rfl (decR_use l) (decBx_use l) rfl rfl ?_
  intro C
  refine LWP.ends ?_
  have hlen : (⟨l.toArray⟩ : ByteArray).size = l.length := rfl
  by_cases h6 : l.length < 6
  · (refine LWP.seq <| LWP.region (by kernel_rfl) <| K.alloc rfl .plain ?_; refine kas rfl <| RunK.nil <| LWP.seq <| LWP.region (by kernel_rfl) <| K.build rfl rfl (by exact rfl) (by exact nl2 rfl rfl rfl) .plain ?_; refine K.alloc rfl .plain ?_; refine K.storeAll rfl rfl rfl rfl rfl rfl .plain ?_; refine RunK.nil <| LWP.seq <| LWP.seq <| LWP.region (by kernel_rfl) <| kmv rfl <| kln rfl <| klt rfl rfl (decide_eq_true (by rw [hlen]; omega)) <| kmv rfl <| RunK.passed rfl rfl rfl <| RunK.passed rfl rfl rfl <| RunK.passed rfl rfl rfl <| kpt rfl rfl <| RunK.nil <| LWP.condT rfl ?_; refine LWP.seq <| LWP.region (by kernel_rfl) <| K.loadAll rfl rfl rfl .plain ?_; refine K.storeAll rfl rfl rfl rfl rfl rfl .plain ?_; refine kas rfl <| RunK.nil <| LWP.ret ?_)
    obtain ⟨q1, q2⟩ := decR_none (decS_short h6)
    rw [q1, q2]
    refine Leads.done ?_
    exact ⟨[], ⟨[_, _], ⟨⟨_, _, rfl, rfl, rfl, .inl ⟨AggT.h, rfl⟩⟩, rfl, trivial⟩, rfl⟩, (by repeat' (first | exact trivial | refine And.intro ⟨_, rfl, ?_⟩ ?_ | refine And.intro ⟨_, rfl⟩ ?_ | rfl | exact Box.ren_bytes _ _ _ _ | exact Box.ren_vals _ _ _ _ | exact Box.ren_mid rfl)), rfl, rfl⟩
  obtain ⟨m0, v0, v1, v2, v3, nb, r, hl⟩ : ∃ m0 v0 v1 v2 v3 nb r, l = m0 :: v0 :: v1 :: v2 :: v3 :: nb :: r := by
    match l, h6 with
    | m0 :: v0 :: v1 :: v2 :: v3 :: nb :: r, _ => exact ⟨m0, v0, v1, v2, v3, nb, r, rfl⟩
    | [], h => exact absurd (by simp) h
    | [_], h => exact absurd (by simp) h
    | [_, _], h => exact absurd (by simp) h
    | [_, _, _], h => exact absurd (by simp) h
    | [_, _, _, _], h => exact absurd (by simp) h
    | [_, _, _, _, _], h => exact absurd (by simp) h
  have hg0 : (⟨l.toArray⟩ : ByteArray)[(0 : Int).toNat]? = some m0 := str_at (by rw [hl]; rfl)
  by_cases hm : m0 = 83
  · subst hm
    have hg1 : (⟨l.toArray⟩ : ByteArray)[(1 : Int).toNat]? = some v0 := str_at (by rw [hl]; rfl)
    have hg2 : (⟨l.toArray⟩ : ByteArray)[(2 : Int).toNat]? = some v1 := str_at (by rw [hl]; rfl)
    have hg3 : (⟨l.toArray⟩ : ByteArray)[(3 : Int).toNat]? = some v2 := str_at (by rw [hl]; rfl)
    have hg4 : (⟨l.toArray⟩ : ByteArray)[(4 : Int).toNat]? = some v3 := str_at (by rw [hl]; rfl)
    have hg5 : (⟨l.toArray⟩ : ByteArray)[(5 : Int).toNat]? = some nb := str_at (by rw [hl]; rfl)
    have hd6 : l.drop 6 = r := by rw [hl]; rfl
    have k0 := v0.toNat_lt
    have k1 := v1.toNat_lt
    have k2 := v2.toNat_lt
    have k3 := v3.toNat_lt
    have k5 := nb.toNat_lt
    have hw : ∀ v : UInt8, IntKind.i64.wrap ((v.toNat : Nat) : Int) = ((v.toNat : Nat) : Int) := fun v => wrap_i64 (by have := v.toNat_lt; omega)
    have hwn := hw nb
    have x1 : IntKind.i64.wrap (((v1.toNat : Nat) : Int) * 256) = ((v1.toNat * 256 : Nat) : Int) := by rw [wrap_i64 (by omega)]; omega
    have x2 : IntKind.i64.wrap (((v0.toNat : Nat) : Int) + ((v1.toNat * 256 : Nat) : Int)) = ((v0.toNat + v1.toNat * 256 : Nat) : Int) := by rw [wrap_i64 (by omega)]; omega
    have x3 : IntKind.i64.wrap (((v2.toNat : Nat) : Int) * 65536) = ((v2.toNat * 65536 : Nat) : Int) := by rw [wrap_i64 (by omega)]; omega
    have x4 : IntKind.i64.wrap (((v0.toNat + v1.toNat * 256 : Nat) : Int) + ((v2.toNat * 65536 : Nat) : Int)) = ((v0.toNat + v1.toNat * 256 + v2.toNat * 65536 : Nat) : Int) := by rw [wrap_i64 (by omega)]; omega
    have x5 : IntKind.i64.wrap (((v3.toNat : Nat) : Int) * 16777216) = ((v3.toNat * 16777216 : Nat) : Int) := by rw [wrap_i64 (by omega)]; omega
    have x6 : IntKind.i64.wrap (((v0.toNat + v1.toNat * 256 + v2.toNat * 65536 : Nat) : Int) + ((v3.toNat * 16777216 : Nat) : Int)) = verOf v0 v1 v2 v3 := by rw [wrap_i64 (by omega)]; unfold verOf; omega
    (refine LWP.seq <| LWP.region (by kernel_rfl) <| K.alloc rfl .plain ?_; refine kas rfl <| RunK.nil <| LWP.seq <| LWP.region (by kernel_rfl) <| K.build rfl rfl (by exact rfl) (by exact nl2 rfl rfl rfl) .plain ?_; refine K.alloc rfl .plain ?_; refine K.storeAll rfl rfl rfl rfl rfl rfl .plain ?_; refine RunK.nil <| LWP.seq <| LWP.seq <| LWP.region (by kernel_rfl) <| kmv rfl <| kln rfl <| klt rfl rfl (decide_eq_false (by rw [hlen]; omega)) <| kmv rfl <| gmv rfl rfl rfl <| K.indexStr rfl rfl (by omega) hg0 (.taken rfl rfl) ?_; refine K.neq rfl rfl (r := false) (by decide) (.taken rfl rfl) ?_; refine kpf rfl rfl <| RunK.nil <| LWP.condF rfl ?_; refine LWP.skip ?_; refine LWP.seq <| LWP.draws mixed (by kernel_rfl) <| kmv rfl <| K.indexStr rfl rfl (by omega) hg1 .plain <| kcv rfl (hw _) ?_; refine kmv rfl <| K.indexStr rfl rfl (by omega) hg2 .plain <| kcv rfl (hw _) ?_; refine K.mul rfl rfl x1 .plain <| kad rfl rfl x2 <| kmv rfl <| K.indexStr rfl rfl (by omega) hg3 .plain <| kcv rfl (hw _) ?_; refine K.mul rfl rfl x3 .plain <| kad rfl rfl x4 <| kmv rfl <| K.indexStr rfl rfl (by omega) hg4 .plain <| kcv rfl (hw _) ?_; refine K.mul rfl rfl x5 .plain <| kad rfl rfl x6 <| kfa rfl rfl ?_; refine K.storeOne rfl rfl rfl rfl rfl (nl2 rfl rfl rfl) .plain <| RunK.nil <| And.intro (by kernel_rfl) ?_; refine LWP.seq <| LWP.region (by kernel_rfl) <| kas rfl <| RunK.nil <| LWP.seq <| LWP.seq <| LWP.region (by kernel_rfl) <| kas rfl <| RunK.nil <| LWP.block ?_)
    generalize hver : verOf v0 v1 v2 v3 = ver at *
    refine LWP.loopL (fun m σ => ∃ (i at_ : Nat) (cs : List Cp) (cells : List Value) (H : Nat → Option Obj), i ≤ nb.toNat ∧ m = nb.toNat - i ∧ at_ ≤ l.length ∧ getCs i r = some (cs, l.drop at_) ∧ cs.length = i ∧ OwnedM C X H ∧ Twigs H 57 3 [] cells (cs.map fun c => flV c.fs) ∧
      ((i = 0 ∧ σ = outSt l at_ cs.length [syB 4 ver (.val (.slice none 0 0)), syZ 2] (joinM X H)) ∨ (0 < i ∧ σ = outSt l at_ cs.length [(600, some ⟨60, (rowsZ cs cells).map .val, true⟩), syB 4 ver (.slc 600 0 cs.length 3), syZ 2] (joinM X H)))) nb.toNat
      (Leads.le (σ' := outSt l 6 0 [syB 4 ver (.val (.slice none 0 0)), syZ 2] X) (Le.of (by exact ⟨rfl, rfl, rfl, rfl, rfl, trivial⟩) (by exact ⟨rfl, rfl, trivial⟩) (by exact rfl) (by exact rfl) (by repeat' (first | refine all_cons_true ?_ ?_ | rfl | exact bytes_inUse | exact vals_inUse | exact mid_inUse rfl))) (Leads.done ⟨0, 6, [], [], fun _ => none, by omega, by omega, by omega, by rw [hd6]; rfl, rfl, OwnedM.nil _ _, Twigs.nil _ _ _ _, .inl ⟨rfl, rfl⟩⟩)) ?_
    rintro m σ ⟨i, at_, cs, cells, H, hi, rfl, hat_, hcs, rfl, hO, G, hst⟩
    rw [hl]
    rw [← hl]
    have hcl : cells.length = cs.length := by rw [G.len, List.length_map]
    rcases hst with ⟨hi0, rfl⟩ | ⟨hi0, rfl⟩
    · have hce : cs = [] := List.eq_nil_of_length_eq_zero hi0
      have hcle : cells = [] := List.eq_nil_of_length_eq_zero (by omega)
      as_aux_lemma =>
        by_cases hlt : cs.length < nb.toNat
        · by_cases hat : at_ < l.length
          · obtain ⟨ci, hci⟩ : ∃ x, l[at_]? = some x := ⟨_, List.getElem?_eq_getElem hat⟩
            have hgi : (⟨l.toArray⟩ : ByteArray)[((at_ : Nat) : Int).toNat]? = some ci := str_at (by rw [Int.toNat_natCast]; exact hci)
            have hwi : IntKind.i64.wrap ((ci.toNat : Nat) : Int) = ((ci.toNat : Nat) : Int) := wrap_i64 (by have := ci.toNat_lt; omega)
            have ha1 : IntKind.i64.wrap (((at_ : Nat) : Int) + 1) = ((at_ + 1 : Nat) : Int) := by rw [wrap_i64 (by omega)]; omega
            cases hT0 : getT (l.drop (at_ + 1)) with
            | none =>
              have hq := text_none (joinM X H) l (at_ + 1) (by omega) (by omega) hT0
              (refine LWP.seq <| LWP.seq <| LWP.region (by kernel_rfl) <| kmv rfl <| kmv rfl <| K.indexStr rfl rfl (by omega) hg5 .plain <| kcv rfl hwn ?_; refine klt rfl rfl (decide_eq_true (by omega)) <| RunK.nil <| LWP.condT rfl ?_; refine LWP.skip ?_; refine LWP.seq <| LWP.block <| LWP.seq <| LWP.seq <| LWP.region (by kernel_rfl) <| kmv rfl <| kmv rfl <| kln rfl <| K.geq rfl rfl (decide_eq_false (by rw [hlen]; omega)) .plain <| RunK.nil <| LWP.condF rfl ?_; refine LWP.skip ?_; refine LWP.seq <| LWP.region (by kernel_rfl) <| kmv rfl <| kmv rfl <| K.indexStr rfl rfl (by omega) hgi .plain <| kcv rfl hwi ?_; refine K.build rfl rfl (by exact rfl) (by exact nl3 rfl rfl rfl rfl) .plain ?_; refine K.alloc rfl .plain ?_; refine K.storeAll rfl rfl rfl rfl rfl rfl .plain ?_; refine RunK.nil <| LWP.seq <| LWP.region (by kernel_rfl) <| kmv rfl <| kmv rfl <| kad rfl rfl ha1 <| kca rfl rfl hq <| kmv rfl <| kex rfl rfl <| kex rfl rfl <| kas rfl <| kas rfl <| RunK.nil <| LWP.seq ?_; refine LWP.seq <| LWP.region (by kernel_rfl) <| kmv rfl <| klt rfl rfl (decide_eq_true (by omega)) <| kmv rfl <| RunK.passed rfl rfl rfl <| RunK.passed rfl rfl rfl <| RunK.passed rfl rfl rfl <| RunK.passed rfl rfl rfl <| kpt rfl rfl <| RunK.nil <| LWP.condT rfl ?_; refine LWP.seq <| LWP.region (by kernel_rfl) <| K.build rfl rfl (by exact rfl) (by exact nl2 rfl rfl rfl) .plain ?_; refine K.storeAll rfl rfl rfl rfl rfl rfl .plain ?_; refine kas rfl <| RunK.nil <| LWP.ret ?_)
              obtain ⟨q1, q2⟩ := decR_none (show decS l = none by rw [hl]; exact decS_none (by have hx := getCs_fail (k := nb.toNat - (cs.length + 1)) hcs (by rw [drop_cons hci]; exact getC_noT hT0); rw [show cs.length + 1 + (nb.toNat - (cs.length + 1)) = nb.toNat by omega] at hx; exact hx))
              rw [q1, q2]
              refine Leads.le (σ' := ⟨[(2, Lp 2), (3, Lb false)], [syZ 2], joinM X H⟩) (Le.of (by exact ⟨rfl, rfl, trivial⟩) (by exact ⟨rfl, trivial⟩) (by exact rfl) (by exact rfl) (by repeat' (first | refine all_cons_true ?_ ?_ | rfl | exact bytes_inUse | exact vals_inUse | exact mid_inUse rfl))) ?_
              refine Leads.le (Le.drop fun b o h => joinM_has hO h) (Leads.done ?_)
              exact ⟨[], ⟨[_, _], ⟨⟨_, _, rfl, rfl, rfl, .inl ⟨AggT.h, rfl⟩⟩, rfl, trivial⟩, rfl⟩, (by repeat' (first | exact trivial | refine And.intro ⟨_, rfl, ?_⟩ ?_ | refine And.intro ⟨_, rfl⟩ ?_ | rfl | exact Box.ren_bytes _ _ _ _ | exact Box.ren_vals _ _ _ _ | exact Box.ren_mid rfl)), rfl, rfl⟩
            | some p =>
              obtain ⟨nm, t⟩ := p
              obtain ⟨hq, ht, hbd⟩ := text_some (joinM X H) l (at_ + 1) (by omega) hT0
              generalize hnx : at_ + 1 + 1 + nm.length = nx at *
              by_cases hnl : nx < l.length
              · obtain ⟨mm, hmm⟩ : ∃ x, l[nx]? = some x := ⟨_, List.getElem?_eq_getElem hnl⟩
                rw [ht, drop_cons hmm] at hT0
                have hgm : (⟨l.toArray⟩ : ByteArray)[((nx : Nat) : Int).toNat]? = some mm := str_at (by rw [Int.toNat_natCast]; exact hmm)
                have hwm : IntKind.i64.wrap ((mm.toNat : Nat) : Int) = ((mm.toNat : Nat) : Int) := wrap_i64 (by have := mm.toNat_lt; omega)
                have han : IntKind.i64.wrap (((nx : Nat) : Int) + 1) = ((nx + 1 : Nat) : Int) := by rw [wrap_i64 (by omega)]; omega
                (refine LWP.seq <| LWP.seq <| LWP.region (by kernel_rfl) <| kmv rfl <| kmv rfl <| K.indexStr rfl rfl (by omega) hg5 .plain <| kcv rfl hwn ?_; refine klt rfl rfl (decide_eq_true (by omega)) <| RunK.nil <| LWP.condT rfl ?_; refine LWP.skip ?_; refine LWP.seq <| LWP.block <| LWP.seq <| LWP.seq <| LWP.region (by kernel_rfl) <| kmv rfl <| kmv rfl <| kln rfl <| K.geq rfl rfl (decide_eq_false (by rw [hlen]; omega)) .plain <| RunK.nil <| LWP.condF rfl ?_; refine LWP.skip ?_; refine LWP.seq <| LWP.region (by kernel_rfl) <| kmv rfl <| kmv rfl <| K.indexStr rfl rfl (by omega) hgi .plain <| kcv rfl hwi ?_; refine K.build rfl rfl (by exact rfl) (by exact nl3 rfl rfl rfl rfl) .plain ?_; refine K.alloc rfl .plain ?_; refine K.storeAll rfl rfl rfl rfl rfl rfl .plain ?_; refine RunK.nil <| LWP.seq <| LWP.region (by kernel_rfl) <| kmv rfl <| kmv rfl <| kad rfl rfl ha1 <| kca rfl rfl hq <| kmv rfl <| kex rfl rfl <| kex rfl rfl <| kas rfl <| kas rfl <| RunK.nil <| LWP.seq ?_; refine LWP.seq <| LWP.region (by kernel_rfl) <| kmv rfl <| klt rfl rfl (decide_eq_false (by omega)) <| kmv rfl <| gmv rfl rfl rfl <| gmv rfl rfl rfl <| K.lenStr rfl (.taken rfl rfl) ?_; refine K.geq rfl rfl (decide_eq_false (by rw [hlen]; omega)) (.taken rfl rfl) ?_; refine kpf rfl rfl <| RunK.nil <| LWP.condF rfl ?_; refine LWP.skip ?_; refine LWP.seq <| LWP.region (by kernel_rfl) <| kmv rfl <| kfa rfl rfl ?_; refine K.storeOne rfl rfl rfl rfl rfl (nl3 rfl rfl rfl rfl) .plain <| RunK.nil <| LWP.seq <| LWP.region (by kernel_rfl) <| kmv rfl <| kmv rfl <| K.indexStr rfl rfl (by omega) hgm .plain <| kcv rfl hwm ?_; refine kas rfl <| RunK.nil <| LWP.seq <| LWP.region (by kernel_rfl) <| kmv rfl <| kad rfl rfl han <| kas rfl <| RunK.nil <| LWP.seq <| LWP.seq <| LWP.region (by kernel_rfl) <| kas rfl <| RunK.nil <| LWP.block ?_)
                refine LWP.loop (fun m σ => ∃ (at2 : Nat) (fs : List Fl), fs.length ≤ mm.toNat ∧ m = mm.toNat - fs.length ∧ at2 ≤ l.length ∧ getFs fs.length (l.drop (nx + 1)) = some (fs, l.drop at2) ∧ ((fs = [] ∧ σ = inSt l at2 cs.length mm.toNat fs.length [cpX 7 (ci.toNat : Nat) nm (.val (.slice none 0 0)), syB 4 ver (.val (.slice none 0 0)), syZ 2] (joinM X H)) ∨ (fs ≠ [] ∧ σ = inSt l at2 cs.length mm.toNat fs.length [(601, some ⟨57, (flV (fs)).map .val, true⟩), cpX 7 (ci.toNat : Nat) nm (.slc 601 0 (fs).length 3), syB 4 ver (.val (.slice none 0 0)), syZ 2] (joinM X H)))) mm.toNat
                  ⟨inSt l (nx + 1) cs.length mm.toNat 0 [cpX 7 (ci.toNat : Nat) nm (.val (.slice none 0 0)), syB 4 ver (.val (.slice none 0 0)), syZ 2] (joinM X H), Le.of (by exact ⟨rfl, rfl, rfl, rfl, rfl, rfl, rfl, rfl, trivial⟩) (by exact ⟨rfl, rfl, rfl, trivial⟩) (by exact rfl) (by exact rfl) (by repeat' (first | refine all_cons_true ?_ ?_ | rfl | exact bytes_inUse | exact vals_inUse | exact mid_inUse rfl)), nx + 1, [], Nat.zero_le _, rfl, by omega, rfl, .inl ⟨rfl, rfl⟩⟩ ?_
                rintro m σ ⟨at2, fs, hfm, rfl, hat2, hfs, hst⟩
                rcases hst with ⟨hfe, rfl⟩ | ⟨hfe, rfl⟩
                · as_aux_lemma =>
                    by_cases hkm : fs.length < mm.toNat
                    · cases hT : getT (l.drop at2) with
                      | none =>
                        have hq := text_none (joinM X H) l at2 (by omega) (by omega) hT
                        (refine LWP.seq <| LWP.seq <| LWP.region (by kernel_rfl) <| kmv rfl <| kmv rfl <| klt rfl rfl (decide_eq_true (by omega)) <| RunK.nil <| LWP.condT rfl ?_; refine LWP.skip ?_; refine LWP.seq <| LWP.block <| LWP.seq <| LWP.region (by kernel_rfl) <| kmv rfl <| kmv rfl <| kca rfl rfl hq <| kmv rfl <| kex rfl rfl <| kex rfl rfl <| kas rfl <| kas rfl <| RunK.nil <| LWP.seq ?_; refine LWP.seq <| LWP.region (by kernel_rfl) <| kmv rfl <| klt rfl rfl (decide_eq_true (by omega)) <| kmv rfl <| RunK.passed rfl rfl rfl <| RunK.passed rfl rfl rfl <| RunK.passed rfl rfl rfl <| RunK.passed rfl rfl rfl <| RunK.passed rfl rfl rfl <| kpt rfl rfl <| RunK.nil <| LWP.condT rfl ?_; refine LWP.seq <| LWP.region (by kernel_rfl) <| K.build rfl rfl (by exact rfl) (by exact nl2 rfl rfl rfl) .plain ?_; refine K.storeAll rfl rfl rfl rfl rfl rfl .plain ?_; refine kas rfl <| RunK.nil <| LWP.ret ?_)
                        obtain ⟨q1, q2⟩ := decR_none (show decS l = none by rw [hl]; exact decS_none (by have hx := getCs_fail (k := nb.toNat - (cs.length + 1)) hcs (by rw [drop_cons hci]; exact getC_noF hT0 (by have hy := getFs_fail (k := mm.toNat - (fs.length + 1)) hfs (getF_noT hT); rw [show fs.length + 1 + (mm.toNat - (fs.length + 1)) = mm.toNat by omega] at hy; exact hy)); rw [show cs.length + 1 + (nb.toNat - (cs.length + 1)) = nb.toNat by omega] at hx; exact hx))
                        rw [q1, q2]
                        refine Leads.le (σ' := ⟨[(2, Lp 2), (3, Lb false)], [syZ 2], joinM X H⟩) (Le.of (by exact ⟨rfl, rfl, trivial⟩) (by exact ⟨rfl, trivial⟩) (by exact rfl) (by exact rfl) (by repeat' (first | refine all_cons_true ?_ ?_ | rfl | exact bytes_inUse | exact vals_inUse | exact mid_inUse rfl))) ?_
                        refine Leads.le (Le.drop fun b o h => joinM_has hO h) (Leads.done ?_)
                        exact ⟨[], ⟨[_, _], ⟨⟨_, _, rfl, rfl, rfl, .inl ⟨AggT.h, rfl⟩⟩, rfl, trivial⟩, rfl⟩, (by repeat' (first | exact trivial | refine And.intro ⟨_, rfl, ?_⟩ ?_ | refine And.intro ⟨_, rfl⟩ ?_ | rfl | exact Box.ren_bytes _ _ _ _ | exact Box.ren_vals _ _ _ _ | exact Box.ren_mid rfl)), rfl, rfl⟩
                      | some p =>
                        obtain ⟨fn, t2⟩ := p
                        obtain ⟨hq, ht2, hbd⟩ := text_some (joinM X H) l at2 (by omega) hT
                        generalize hbh : at2 + 1 + fn.length = bh at *
                        have ha2 : IntKind.i64.wrap (((bh : Nat) : Int) + 2) = ((bh + 2 : Nat) : Int) := by rw [wrap_i64 (by omega)]; omega
                        have ha1 : IntKind.i64.wrap (((bh : Nat) : Int) + 1) = ((bh + 1 : Nat) : Int) := by rw [wrap_i64 (by omega)]; omega
                        by_cases hroom : bh + 2 ≤ l.length
                        · obtain ⟨k1, hk1⟩ : ∃ x, l[bh]? = some x := ⟨_, List.getElem?_eq_getElem (by omega)⟩
                          obtain ⟨k2, hk2⟩ : ∃ x, l[bh + 1]? = some x := ⟨_, List.getElem?_eq_getElem (by omega)⟩
                          have hT2 : getT (l.drop at2) = some (fn, k1 :: k2 :: l.drop (bh + 2)) := by rw [hT, ht2, drop_cons hk1, drop_cons hk2]
                          have hstep := getFs_step hfs (getF_yes hT2)
                          have hw1 : IntKind.i64.wrap ((k1.toNat : Nat) : Int) = ((k1.toNat : Nat) : Int) := wrap_i64 (by have := k1.toNat_lt; omega)
                          have hw2 : IntKind.i64.wrap ((k2.toNat : Nat) : Int) = ((k2.toNat : Nat) : Int) := wrap_i64 (by have := k2.toNat_lt; omega)
                          have hg1 : (⟨l.toArray⟩ : ByteArray)[((bh : Nat) : Int).toNat]? = some k1 := str_at (by rw [Int.toNat_natCast]; exact hk1)
                          have hg2 : (⟨l.toArray⟩ : ByteArray)[((bh + 1 : Nat) : Int).toNat]? = some k2 := str_at (by rw [Int.toNat_natCast]; exact hk2)
                          have hmm := mm.toNat_lt
                          have hkk : IntKind.i64.wrap (((fs.length : Nat) : Int) + 1) = ((fs.length + 1 : Nat) : Int) := by rw [wrap_i64 (by omega)]; omega
                          generalize hfdef : (⟨fn, (k1.toNat : Nat), (k2.toNat : Nat)⟩ : Fl) = f at *
                          have hfv : f.vals.map CV.val = [.val (.string ⟨fn.toArray⟩), .val (.int .i64 (k1.toNat : Nat)), .val (.int .i64 (k2.toNat : Nat))] := by rw [← hfdef]; rfl
                          have hsnoc := flV_snoc fs f
                          have hnl : fs.length + 1 = (fs ++ [f]).length := by rw [List.length_append]; rfl
                          have hfl : ((flV fs).map CV.val).length = fs.length * 3 := by rw [List.length_map, flV_len]
                          have hnc : (flV fs).map CV.val ++ [.val (.string ⟨fn.toArray⟩), .val (.int .i64 (k1.toNat : Nat)), .val (.int .i64 (k2.toNat : Nat))] = (flV (fs ++ [f])).map .val := by rw [hsnoc, List.map_append, hfv]
                          (refine LWP.seq <| LWP.seq <| LWP.region (by kernel_rfl) <| kmv rfl <| kmv rfl <| klt rfl rfl (decide_eq_true (by omega)) <| RunK.nil <| LWP.condT rfl ?_; refine LWP.skip ?_; refine LWP.seq <| LWP.block <| LWP.seq <| LWP.region (by kernel_rfl) <| kmv rfl <| kmv rfl <| kca rfl rfl hq <| kmv rfl <| kex rfl rfl <| kex rfl rfl <| kas rfl <| kas rfl <| RunK.nil <| LWP.seq ?_; refine LWP.seq <| LWP.region (by kernel_rfl) <| kmv rfl <| klt rfl rfl (decide_eq_false (by omega)) <| kmv rfl <| gmv rfl rfl rfl <| K.add rfl rfl ha2 (.taken rfl rfl) ?_; refine gmv rfl rfl rfl <| K.lenStr rfl (.taken rfl rfl) ?_; refine K.gtr rfl rfl (decide_eq_false (by rw [hlen]; omega)) (.taken rfl rfl) ?_; refine kpf rfl rfl <| RunK.nil <| LWP.condF rfl ?_; refine LWP.skip ?_; refine LWP.seq <| LWP.draws mixed (by kernel_rfl) <| kfa rfl rfl ?_; refine kl1 rfl rfl rfl <| kmv rfl <| kmv rfl <| kmv rfl <| K.indexStr rfl rfl (by omega) hg1 .plain <| kcv rfl hw1 ?_; refine kmv rfl <| kmv rfl <| kad rfl rfl ha1 <| K.indexStr rfl rfl (by omega) hg2 .plain <| kcv rfl hw2 ?_; refine K.build rfl rfl (by exact rfl) (by exact nl3 rfl rfl rfl rfl) .plain ?_; refine K.buildSlc (zs := [.string ⟨#[]⟩, .int .i64 0, .int .i64 0]) (sz := 3) (e := 57) (cs' := [.val (.string ⟨fn.toArray⟩), .val (.int .i64 (k1.toNat : Nat)), .val (.int .i64 (k2.toNat : Nat))]) (by kernel_rfl) rfl rfl rfl rfl rfl rfl .plain <| K.appendNil (by_ := 32) (e := 57) (e2 := 57) (l2 := [.val (.string ⟨fn.toArray⟩), .val (.int .i64 (k1.toNat : Nat)), .val (.int .i64 (k2.toNat : Nat))]) rfl rfl rfl (Nat.le_refl _) rfl rfl (by decide) (by kernel_rfl) (by kernel_rfl) (by omega) (by omega) rfl .plain ?_; refine kfa rfl rfl ?_; refine K.storeOne rfl rfl rfl rfl rfl (nl3 rfl rfl rfl rfl) .plain <| RunK.nil <| And.intro (by kernel_rfl) ?_; refine LWP.region (by kernel_rfl) <| kmv rfl <| kad rfl rfl ha2 <| kas rfl <| RunK.nil <| LWP.region (by kernel_rfl) <| kmv rfl <| kad rfl rfl hkk <| kas rfl <| RunK.nil ?_)
                          refine ⟨_, inSt l (bh + 2) cs.length mm.toNat (fs ++ [f]).length [(601, some ⟨57, (flV (fs ++ [f])).map .val, true⟩), cpX 7 (ci.toNat : Nat) nm (.slc 601 0 (fs ++ [f]).length 3), syB 4 ver (.val (.slice none 0 0)), syZ 2] (joinM X H), ?_, ?_, bh + 2, fs ++ [f], ?_, rfl, by omega, ?_, .inr ⟨by simp, rfl⟩⟩
                          · rw [List.length_append]; simp only [List.length_singleton]; omega
                          · rw [← hnl]
                            rw [show fs = [] from hfe] at hsnoc ⊢
                            rw [show (flV ([] ++ [f])).map CV.val = [.val (.string ⟨fn.toArray⟩), .val (.int .i64 (k1.toNat : Nat)), .val (.int .i64 (k2.toNat : Nat))] from hfv]
                            exact Le.ofR [(601, 119)] (by exact ⟨rfl, rfl, rfl, rfl, rfl, rfl, rfl, rfl, trivial⟩) (by repeat' (first | exact trivial | refine And.intro ⟨_, rfl, ?_⟩ ?_ | refine And.intro ⟨_, rfl⟩ ?_ | rfl | exact Box.ren_bytes _ _ _ _ | exact Box.ren_vals _ _ _ _ | exact Box.ren_mid rfl)) (by exact rfl) (by exact rfl) (by repeat' (first | refine all_cons_true ?_ ?_ | rfl | exact bytes_inUse | exact vals_inUse | exact mid_inUse rfl)) (by exact rfl) (by exact rfl)
                          · rw [List.length_append]; simp only [List.length_singleton]; omega
                          · rw [← hnl]; exact hstep
                        · have hsh : (l.drop bh).length < 2 := by rw [List.length_drop]; omega
                          rw [ht2] at hT
                          (refine LWP.seq <| LWP.seq <| LWP.region (by kernel_rfl) <| kmv rfl <| kmv rfl <| klt rfl rfl (decide_eq_true (by omega)) <| RunK.nil <| LWP.condT rfl ?_; refine LWP.skip ?_; refine LWP.seq <| LWP.block <| LWP.seq <| LWP.region (by kernel_rfl) <| kmv rfl <| kmv rfl <| kca rfl rfl hq <| kmv rfl <| kex rfl rfl <| kex rfl rfl <| kas rfl <| kas rfl <| RunK.nil <| LWP.seq ?_; refine LWP.seq <| LWP.region (by kernel_rfl) <| kmv rfl <| klt rfl rfl (decide_eq_false (by omega)) <| kmv rfl <| gmv rfl rfl rfl <| K.add rfl rfl ha2 (.taken rfl rfl) ?_; refine gmv rfl rfl rfl <| K.lenStr rfl (.taken rfl rfl) ?_; refine K.gtr rfl rfl (decide_eq_true (by rw [hlen]; omega)) (.taken rfl rfl) ?_; refine kpf rfl rfl <| RunK.nil <| LWP.condT rfl ?_; refine LWP.seq <| LWP.region (by kernel_rfl) <| K.build rfl rfl (by exact rfl) (by exact nl2 rfl rfl rfl) .plain ?_; refine K.storeAll rfl rfl rfl rfl rfl rfl .plain ?_; refine kas rfl <| RunK.nil <| LWP.ret ?_)
                          obtain ⟨q1, q2⟩ := decR_none (show decS l = none by rw [hl]; exact decS_none (by have hx := getCs_fail (k := nb.toNat - (cs.length + 1)) hcs (by rw [drop_cons hci]; exact getC_noF hT0 (by have hy := getFs_fail (k := mm.toNat - (fs.length + 1)) hfs (getF_short hT hsh); rw [show fs.length + 1 + (mm.toNat - (fs.length + 1)) = mm.toNat by omega] at hy; exact hy)); rw [show cs.length + 1 + (nb.toNat - (cs.length + 1)) = nb.toNat by omega] at hx; exact hx))
                          rw [q1, q2]
                          refine Leads.le (σ' := ⟨[(2, Lp 2), (3, Lb false)], [syZ 2], joinM X H⟩) (Le.of (by exact ⟨rfl, rfl, trivial⟩) (by exact ⟨rfl, trivial⟩) (by exact rfl) (by exact rfl) (by repeat' (first | refine all_cons_true ?_ ?_ | rfl | exact bytes_inUse | exact vals_inUse | exact mid_inUse rfl))) ?_
                          refine Leads.le (Le.drop fun b o h => joinM_has hO h) (Leads.done ?_)
                          exact ⟨[], ⟨[_, _], ⟨⟨_, _, rfl, rfl, rfl, .inl ⟨AggT.h, rfl⟩⟩, rfl, trivial⟩, rfl⟩, (by repeat' (first | exact trivial | refine And.intro ⟨_, rfl, ?_⟩ ?_ | refine And.intro ⟨_, rfl⟩ ?_ | rfl | exact Box.ren_bytes _ _ _ _ | exact Box.ren_vals _ _ _ _ | exact Box.ren_mid rfl)), rfl, rfl⟩
                    · have e : fs.length = mm.toNat := by omega
                      rw [e] at hfs
                      have hC := getC_yes (i := ci) hT0 hfs
                      have hstep := getCs_step hcs (by rw [drop_cons hci]; exact hC)
                      have hrl : ((rowsZ cs cells).map CV.val).length = cs.length * 3 := by rw [List.length_map, rowsZ_len hcl]
                      have hii : IntKind.i64.wrap (((cs.length : Nat) : Int) + 1) = ((cs.length + 1 : Nat) : Int) := by rw [wrap_i64 (by omega)]; omega
                      have hnc3 : (rowsZ cs cells).map CV.val ++ [.val (.int .i64 (ci.toNat : Nat)), .val (.string ⟨nm.toArray⟩), .val (.slice none 0 0)] = (rowsZ (cs ++ [(⟨(ci.toNat : Nat), nm, fs⟩ : Cp)]) (cells ++ [.slice none 0 0])).map .val := by
                        rw [rowsZ_add hcl]; simp
                      (refine LWP.seq <| LWP.seq <| LWP.region (by kernel_rfl) <| kmv rfl <| kmv rfl <| klt rfl rfl (decide_eq_false (by omega)) <| RunK.nil <| LWP.condF rfl ?_; refine LWP.exit <| LWP.region (by kernel_rfl) <| kfa rfl rfl ?_; refine kl1 rfl rfl rfl <| K.loadAll rfl rfl rfl .plain ?_; refine K.buildSlc (zs := [.int .i64 0, .string ⟨#[]⟩, .slice none 0 0]) (sz := 3) (e := 60) (cs' := [.val (.int .i64 (ci.toNat : Nat)), .val (.string ⟨nm.toArray⟩), .val (.slice none 0 0)]) (by kernel_rfl) rfl rfl rfl rfl rfl rfl .plain <| K.appendNil (by_ := 48) (e := 60) (e2 := 60) (l2 := [.val (.int .i64 (ci.toNat : Nat)), .val (.string ⟨nm.toArray⟩), .val (.slice none 0 0)]) rfl rfl rfl (Nat.le_refl _) rfl rfl (by decide) (by kernel_rfl) (by kernel_rfl) (by omega) (by omega) rfl .plain ?_; refine kfa rfl rfl ?_; refine K.storeOne rfl rfl rfl rfl rfl (nl2 rfl rfl rfl) .plain <| RunK.nil <| LWP.region (by kernel_rfl) <| kmv rfl <| kad rfl rfl hii <| kas rfl <| RunK.nil ?_)
                      have hcn : (cs ++ [(⟨(ci.toNat : Nat), nm, fs⟩ : Cp)]).length = cs.length + 1 := by rw [List.length_append]; rfl
                      refine Leads.le (σ' := ⟨[(0, Ls l), (2, Lp 2), (4, Lp 4), (5, Ln .i64 (at2 : Nat)), (6, Ln .i64 (cs.length + 1 : Nat))], [(600, some ⟨60, (rowsZ (cs ++ [(⟨(ci.toNat : Nat), nm, fs⟩ : Cp)]) (cells ++ [.slice none 0 0])).map .val, true⟩), syB 4 ver (.slc 600 0 (cs.length + 1) 3), syZ 2], joinM X H⟩) ?_ (Leads.done ⟨nb.toNat - (cs.length + 1), by omega, cs.length + 1, at2, cs ++ [⟨(ci.toNat : Nat), nm, fs⟩], cells ++ [.slice none 0 0], H, by omega, rfl, by omega, hstep, hcn, hO, ?_, .inr ⟨by omega, by rw [hcn]⟩⟩)
                      · rw [show cs = [] from hce, show cells = [] from hcle]
                        exact Le.ofR [(600, 127)] (by exact ⟨rfl, rfl, rfl, rfl, rfl, trivial⟩) (by repeat' (first | exact trivial | refine And.intro ⟨_, rfl, ?_⟩ ?_ | refine And.intro ⟨_, rfl⟩ ?_ | rfl | exact Box.ren_bytes _ _ _ _ | exact Box.ren_vals _ _ _ _ | exact Box.ren_mid rfl)) (by exact rfl) (by exact rfl) (by repeat' (first | refine all_cons_true ?_ ?_ | rfl | exact bytes_inUse | exact vals_inUse | exact mid_inUse rfl)) (by exact rfl) (by exact rfl)
                      · rw [List.map_append, List.map_cons, List.map_nil, show flV fs = [] by rw [show fs = [] from hfe]; rfl]
                        exact G.pushZ none 0
                · as_aux_lemma =>
                    by_cases hkm : fs.length < mm.toNat
                    · cases hT : getT (l.drop at2) with
                      | none =>
                        have hq := text_none (joinM X H) l at2 (by omega) (by omega) hT
                        (refine LWP.seq <| LWP.seq <| LWP.region (by kernel_rfl) <| kmv rfl <| kmv rfl <| klt rfl rfl (decide_eq_true (by omega)) <| RunK.nil <| LWP.condT rfl ?_; refine LWP.skip ?_; refine LWP.seq <| LWP.block <| LWP.seq <| LWP.region (by kernel_rfl) <| kmv rfl <| kmv rfl <| kca rfl rfl hq <| kmv rfl <| kex rfl rfl <| kex rfl rfl <| kas rfl <| kas rfl <| RunK.nil <| LWP.seq ?_; refine LWP.seq <| LWP.region (by kernel_rfl) <| kmv rfl <| klt rfl rfl (decide_eq_true (by omega)) <| kmv rfl <| RunK.passed rfl rfl rfl <| RunK.passed rfl rfl rfl <| RunK.passed rfl rfl rfl <| RunK.passed rfl rfl rfl <| RunK.passed rfl rfl rfl <| kpt rfl rfl <| RunK.nil <| LWP.condT rfl ?_; refine LWP.seq <| LWP.region (by kernel_rfl) <| K.build rfl rfl (by exact rfl) (by exact nl2 rfl rfl rfl) .plain ?_; refine K.storeAll rfl rfl rfl rfl rfl rfl .plain ?_; refine kas rfl <| RunK.nil <| LWP.ret ?_)
                        obtain ⟨q1, q2⟩ := decR_none (show decS l = none by rw [hl]; exact decS_none (by have hx := getCs_fail (k := nb.toNat - (cs.length + 1)) hcs (by rw [drop_cons hci]; exact getC_noF hT0 (by have hy := getFs_fail (k := mm.toNat - (fs.length + 1)) hfs (getF_noT hT); rw [show fs.length + 1 + (mm.toNat - (fs.length + 1)) = mm.toNat by omega] at hy; exact hy)); rw [show cs.length + 1 + (nb.toNat - (cs.length + 1)) = nb.toNat by omega] at hx; exact hx))
                        rw [q1, q2]
                        refine Leads.le (σ' := ⟨[(2, Lp 2), (3, Lb false)], [syZ 2], joinM X H⟩) (Le.of (by exact ⟨rfl, rfl, trivial⟩) (by exact ⟨rfl, trivial⟩) (by exact rfl) (by exact rfl) (by repeat' (first | refine all_cons_true ?_ ?_ | rfl | exact bytes_inUse | exact vals_inUse | exact mid_inUse rfl))) ?_
                        refine Leads.le (Le.drop fun b o h => joinM_has hO h) (Leads.done ?_)
                        exact ⟨[], ⟨[_, _], ⟨⟨_, _, rfl, rfl, rfl, .inl ⟨AggT.h, rfl⟩⟩, rfl, trivial⟩, rfl⟩, (by repeat' (first | exact trivial | refine And.intro ⟨_, rfl, ?_⟩ ?_ | refine And.intro ⟨_, rfl⟩ ?_ | rfl | exact Box.ren_bytes _ _ _ _ | exact Box.ren_vals _ _ _ _ | exact Box.ren_mid rfl)), rfl, rfl⟩
                      | some p =>
                        obtain ⟨fn, t2⟩ := p
                        obtain ⟨hq, ht2, hbd⟩ := text_some (joinM X H) l at2 (by omega) hT
                        generalize hbh : at2 + 1 + fn.length = bh at *
                        have ha2 : IntKind.i64.wrap (((bh : Nat) : Int) + 2) = ((bh + 2 : Nat) : Int) := by rw [wrap_i64 (by omega)]; omega
                        have ha1 : IntKind.i64.wrap (((bh : Nat) : Int) + 1) = ((bh + 1 : Nat) : Int) := by rw [wrap_i64 (by omega)]; omega
                        by_cases hroom : bh + 2 ≤ l.length
                        · obtain ⟨k1, hk1⟩ : ∃ x, l[bh]? = some x := ⟨_, List.getElem?_eq_getElem (by omega)⟩
                          obtain ⟨k2, hk2⟩ : ∃ x, l[bh + 1]? = some x := ⟨_, List.getElem?_eq_getElem (by omega)⟩
                          have hT2 : getT (l.drop at2) = some (fn, k1 :: k2 :: l.drop (bh + 2)) := by rw [hT, ht2, drop_cons hk1, drop_cons hk2]
                          have hstep := getFs_step hfs (getF_yes hT2)
                          have hw1 : IntKind.i64.wrap ((k1.toNat : Nat) : Int) = ((k1.toNat : Nat) : Int) := wrap_i64 (by have := k1.toNat_lt; omega)
                          have hw2 : IntKind.i64.wrap ((k2.toNat : Nat) : Int) = ((k2.toNat : Nat) : Int) := wrap_i64 (by have := k2.toNat_lt; omega)
                          have hg1 : (⟨l.toArray⟩ : ByteArray)[((bh : Nat) : Int).toNat]? = some k1 := str_at (by rw [Int.toNat_natCast]; exact hk1)
                          have hg2 : (⟨l.toArray⟩ : ByteArray)[((bh + 1 : Nat) : Int).toNat]? = some k2 := str_at (by rw [Int.toNat_natCast]; exact hk2)
                          have hmm := mm.toNat_lt
                          have hkk : IntKind.i64.wrap (((fs.length : Nat) : Int) + 1) = ((fs.length + 1 : Nat) : Int) := by rw [wrap_i64 (by omega)]; omega
                          generalize hfdef : (⟨fn, (k1.toNat : Nat), (k2.toNat : Nat)⟩ : Fl) = f at *
                          have hfv : f.vals.map CV.val = [.val (.string ⟨fn.toArray⟩), .val (.int .i64 (k1.toNat : Nat)), .val (.int .i64 (k2.toNat : Nat))] := by rw [← hfdef]; rfl
                          have hsnoc := flV_snoc fs f
                          have hnl : fs.length + 1 = (fs ++ [f]).length := by rw [List.length_append]; rfl
                          have hfl : ((flV fs).map CV.val).length = fs.length * 3 := by rw [List.length_map, flV_len]
                          have hnc : (flV fs).map CV.val ++ [.val (.string ⟨fn.toArray⟩), .val (.int .i64 (k1.toNat : Nat)), .val (.int .i64 (k2.toNat : Nat))] = (flV (fs ++ [f])).map .val := by rw [hsnoc, List.map_append, hfv]
                          (refine LWP.seq <| LWP.seq <| LWP.region (by kernel_rfl) <| kmv rfl <| kmv rfl <| klt rfl rfl (decide_eq_true (by omega)) <| RunK.nil <| LWP.condT rfl ?_; refine LWP.skip ?_; refine LWP.seq <| LWP.block <| LWP.seq <| LWP.region (by kernel_rfl) <| kmv rfl <| kmv rfl <| kca rfl rfl hq <| kmv rfl <| kex rfl rfl <| kex rfl rfl <| kas rfl <| kas rfl <| RunK.nil <| LWP.seq ?_; refine LWP.seq <| LWP.region (by kernel_rfl) <| kmv rfl <| klt rfl rfl (decide_eq_false (by omega)) <| kmv rfl <| gmv rfl rfl rfl <| K.add rfl rfl ha2 (.taken rfl rfl) ?_; refine gmv rfl rfl rfl <| K.lenStr rfl (.taken rfl rfl) ?_; refine K.gtr rfl rfl (decide_eq_false (by rw [hlen]; omega)) (.taken rfl rfl) ?_; refine kpf rfl rfl <| RunK.nil <| LWP.condF rfl ?_; refine LWP.skip ?_; refine LWP.seq <| LWP.draws mixed (by kernel_rfl) <| kfa rfl rfl ?_; refine kl1 rfl rfl rfl <| kmv rfl <| kmv rfl <| kmv rfl <| K.indexStr rfl rfl (by omega) hg1 .plain <| kcv rfl hw1 ?_; refine kmv rfl <| kmv rfl <| kad rfl rfl ha1 <| K.indexStr rfl rfl (by omega) hg2 .plain <| kcv rfl hw2 ?_; refine K.build rfl rfl (by exact rfl) (by exact nl3 rfl rfl rfl rfl) .plain ?_; refine K.buildSlc (zs := [.string ⟨#[]⟩, .int .i64 0, .int .i64 0]) (sz := 3) (e := 57) (cs' := [.val (.string ⟨fn.toArray⟩), .val (.int .i64 (k1.toNat : Nat)), .val (.int .i64 (k2.toNat : Nat))]) (by kernel_rfl) rfl rfl rfl rfl rfl rfl .plain <| K.appendSlc (by_ := 32) (e2 := 57) (l2 := [.val (.string ⟨fn.toArray⟩), .val (.int .i64 (k1.toNat : Nat)), .val (.int .i64 (k2.toNat : Nat))]) (nl := (fs ++ [f]).length) (nc := (flV (fs ++ [f])).map .val) rfl rfl hfl rfl rfl (Nat.le_refl _) rfl rfl (by kernel_rfl) (by kernel_rfl) (by omega) (by omega) rfl hnl hnc .plain <| kfa rfl rfl ?_; refine K.storeOne rfl rfl rfl rfl rfl (nl3 rfl rfl rfl rfl) .plain <| RunK.nil <| And.intro (by kernel_rfl) ?_; refine LWP.region (by kernel_rfl) <| kmv rfl <| kad rfl rfl ha2 <| kas rfl <| RunK.nil <| LWP.region (by kernel_rfl) <| kmv rfl <| kad rfl rfl hkk <| kas rfl <| RunK.nil ?_)
                          refine ⟨_, inSt l (bh + 2) cs.length mm.toNat (fs ++ [f]).length [(601, some ⟨57, (flV (fs ++ [f])).map .val, true⟩), cpX 7 (ci.toNat : Nat) nm (.slc 601 0 (fs ++ [f]).length 3), syB 4 ver (.val (.slice none 0 0)), syZ 2] (joinM X H), ?_, ?_, bh + 2, fs ++ [f], ?_, rfl, by omega, ?_, .inr ⟨by simp, rfl⟩⟩
                          · rw [List.length_append]; simp only [List.length_singleton]; omega
                          · rw [← hnl]
                            skip
                            exact Le.ofR [(601, 119)] (by exact ⟨rfl, rfl, rfl, rfl, rfl, rfl, rfl, rfl, trivial⟩) (by repeat' (first | exact trivial | refine And.intro ⟨_, rfl, ?_⟩ ?_ | refine And.intro ⟨_, rfl⟩ ?_ | rfl | exact Box.ren_bytes _ _ _ _ | exact Box.ren_vals _ _ _ _ | exact Box.ren_mid rfl)) (by exact rfl) (by exact rfl) (by repeat' (first | refine all_cons_true ?_ ?_ | rfl | exact bytes_inUse | exact vals_inUse | exact mid_inUse rfl)) (by exact rfl) (by exact rfl)
                          · rw [List.length_append]; simp only [List.length_singleton]; omega
                          · rw [← hnl]; exact hstep
                        · have hsh : (l.drop bh).length < 2 := by rw [List.length_drop]; omega
                          rw [ht2] at hT
                          (refine LWP.seq <| LWP.seq <| LWP.region (by kernel_rfl) <| kmv rfl <| kmv rfl <| klt rfl rfl (decide_eq_true (by omega)) <| RunK.nil <| LWP.condT rfl ?_; refine LWP.skip ?_; refine LWP.seq <| LWP.block <| LWP.seq <| LWP.region (by kernel_rfl) <| kmv rfl <| kmv rfl <| kca rfl rfl hq <| kmv rfl <| kex rfl rfl <| kex rfl rfl <| kas rfl <| kas rfl <| RunK.nil <| LWP.seq ?_; refine LWP.seq <| LWP.region (by kernel_rfl) <| kmv rfl <| klt rfl rfl (decide_eq_false (by omega)) <| kmv rfl <| gmv rfl rfl rfl <| K.add rfl rfl ha2 (.taken rfl rfl) ?_; refine gmv rfl rfl rfl <| K.lenStr rfl (.taken rfl rfl) ?_; refine K.gtr rfl rfl (decide_eq_true (by rw [hlen]; omega)) (.taken rfl rfl) ?_; refine kpf rfl rfl <| RunK.nil <| LWP.condT rfl ?_; refine LWP.seq <| LWP.region (by kernel_rfl) <| K.build rfl rfl (by exact rfl) (by exact nl2 rfl rfl rfl) .plain ?_; refine K.storeAll rfl rfl rfl rfl rfl rfl .plain ?_; refine kas rfl <| RunK.nil <| LWP.ret ?_)
                          obtain ⟨q1, q2⟩ := decR_none (show decS l = none by rw [hl]; exact decS_none (by have hx := getCs_fail (k := nb.toNat - (cs.length + 1)) hcs (by rw [drop_cons hci]; exact getC_noF hT0 (by have hy := getFs_fail (k := mm.toNat - (fs.length + 1)) hfs (getF_short hT hsh); rw [show fs.length + 1 + (mm.toNat - (fs.length + 1)) = mm.toNat by omega] at hy; exact hy)); rw [show cs.length + 1 + (nb.toNat - (cs.length + 1)) = nb.toNat by omega] at hx; exact hx))
                          rw [q1, q2]
                          refine Leads.le (σ' := ⟨[(2, Lp 2), (3, Lb false)], [syZ 2], joinM X H⟩) (Le.of (by exact ⟨rfl, rfl, trivial⟩) (by exact ⟨rfl, trivial⟩) (by exact rfl) (by exact rfl) (by repeat' (first | refine all_cons_true ?_ ?_ | rfl | exact bytes_inUse | exact vals_inUse | exact mid_inUse rfl))) ?_
                          refine Leads.le (Le.drop fun b o h => joinM_has hO h) (Leads.done ?_)
                          exact ⟨[], ⟨[_, _], ⟨⟨_, _, rfl, rfl, rfl, .inl ⟨AggT.h, rfl⟩⟩, rfl, trivial⟩, rfl⟩, (by repeat' (first | exact trivial | refine And.intro ⟨_, rfl, ?_⟩ ?_ | refine And.intro ⟨_, rfl⟩ ?_ | rfl | exact Box.ren_bytes _ _ _ _ | exact Box.ren_vals _ _ _ _ | exact Box.ren_mid rfl)), rfl, rfl⟩
                    · have e : fs.length = mm.toNat := by omega
                      rw [e] at hfs
                      have hC := getC_yes (i := ci) hT0 hfs
                      have hstep := getCs_step hcs (by rw [drop_cons hci]; exact hC)
                      have hrl : ((rowsZ cs cells).map CV.val).length = cs.length * 3 := by rw [List.length_map, rowsZ_len hcl]
                      have hii : IntKind.i64.wrap (((cs.length : Nat) : Int) + 1) = ((cs.length + 1 : Nat) : Int) := by rw [wrap_i64 (by omega)]; omega
                      have hnc3 : (rowsZ cs cells).map CV.val ++ [.val (.int .i64 (ci.toNat : Nat)), .val (.string ⟨nm.toArray⟩), .slc 601 0 fs.length 3] = (rowsZ cs cells ++ [Value.int .i64 (ci.toNat : Nat), Value.string ⟨nm.toArray⟩]).map .val ++ .slc 601 0 fs.length 3 :: ([] : List Value).map .val := by
                        simp
                      (refine LWP.seq <| LWP.seq <| LWP.region (by kernel_rfl) <| kmv rfl <| kmv rfl <| klt rfl rfl (decide_eq_false (by omega)) <| RunK.nil <| LWP.condF rfl ?_; refine LWP.exit <| LWP.region (by kernel_rfl) <| kfa rfl rfl ?_; refine kl1 rfl rfl rfl <| K.loadAll rfl rfl rfl .plain ?_; refine K.buildSlc (zs := [.int .i64 0, .string ⟨#[]⟩, .slice none 0 0]) (sz := 3) (e := 60) (cs' := [.val (.int .i64 (ci.toNat : Nat)), .val (.string ⟨nm.toArray⟩), .slc 601 0 fs.length 3]) (by kernel_rfl) rfl rfl rfl rfl rfl rfl .plain <| K.appendNil (by_ := 48) (e := 60) (e2 := 60) (l2 := [.val (.int .i64 (ci.toNat : Nat)), .val (.string ⟨nm.toArray⟩), .slc 601 0 fs.length 3]) rfl rfl rfl (Nat.le_refl _) rfl rfl (by decide) (by kernel_rfl) (by kernel_rfl) (by omega) (by omega) rfl .plain ?_; refine kfa rfl rfl ?_; refine K.storeOne rfl rfl rfl rfl rfl (nl2 rfl rfl rfl) .plain <| RunK.nil <| LWP.region (by kernel_rfl) <| kmv rfl <| kad rfl rfl hii <| kas rfl <| RunK.nil ?_)
                      have hcn : (cs ++ [(⟨(ci.toNat : Nat), nm, fs⟩ : Cp)]).length = cs.length + 1 := by rw [List.length_append]; rfl
                      refine Leads.le (σ' := ⟨[(0, Ls l), (2, Lp 2), (4, Lp 4), (5, Ln .i64 (at2 : Nat)), (6, Ln .i64 (cs.length + 1 : Nat))], [(600, some ⟨60, (rowsZ cs cells ++ [Value.int .i64 (ci.toNat : Nat), Value.string ⟨nm.toArray⟩]).map .val ++ .slc 601 0 fs.length 3 :: ([] : List Value).map .val, true⟩), (601, some ⟨57, (flV fs).map .val, true⟩), syB 4 ver (.slc 600 0 (cs.length + 1) 3), syZ 2], joinM X H⟩) ?_ ?_
                      · rw [show cs = [] from hce, show cells = [] from hcle]
                        exact Le.ofR [(600, 127)] (by exact ⟨rfl, rfl, rfl, rfl, rfl, trivial⟩) (by repeat' (first | exact trivial | refine And.intro ⟨_, rfl, ?_⟩ ?_ | refine And.intro ⟨_, rfl⟩ ?_ | rfl | exact Box.ren_bytes _ _ _ _ | exact Box.ren_vals _ _ _ _ | exact Box.ren_mid rfl)) (by exact rfl) (by exact rfl) (by repeat' (first | refine all_cons_true ?_ ?_ | rfl | exact bytes_inUse | exact vals_inUse | exact mid_inUse rfl)) (by exact rfl) (by exact rfl)
                      refine Leads.closeCell hO (flV_len _) rfl vals_inUse rfl rfl rfl rfl fun b o v g1 _ hO3 hv => Leads.done ⟨nb.toNat - (cs.length + 1), by omega, cs.length + 1, at2, cs ++ [⟨(ci.toNat : Nat), nm, fs⟩], cells ++ [v], withBlock H b o, by omega, rfl, by omega, hstep, hcn, hO3, ?_, .inr ⟨by omega, ?_⟩⟩
                      · rw [List.map_append, List.map_cons, List.map_nil]
                        exact G.push g1 hv (fun e => hfe (by have := flV_len fs; rw [e, List.length_nil] at this; exact List.eq_nil_of_length_eq_zero (by omega)))
                      · rw [hcn, rowsZ_add hcl]
                        simp
              · rw [ht, show l.drop nx = [] from List.drop_eq_nil_of_le (by omega)] at hT0
                (refine LWP.seq <| LWP.seq <| LWP.region (by kernel_rfl) <| kmv rfl <| kmv rfl <| K.indexStr rfl rfl (by omega) hg5 .plain <| kcv rfl hwn ?_; refine klt rfl rfl (decide_eq_true (by omega)) <| RunK.nil <| LWP.condT rfl ?_; refine LWP.skip ?_; refine LWP.seq <| LWP.block <| LWP.seq <| LWP.seq <| LWP.region (by kernel_rfl) <| kmv rfl <| kmv rfl <| kln rfl <| K.geq rfl rfl (decide_eq_false (by rw [hlen]; omega)) .plain <| RunK.nil <| LWP.condF rfl ?_; refine LWP.skip ?_; refine LWP.seq <| LWP.region (by kernel_rfl) <| kmv rfl <| kmv rfl <| K.indexStr rfl rfl (by omega) hgi .plain <| kcv rfl hwi ?_; refine K.build rfl rfl (by exact rfl) (by exact nl3 rfl rfl rfl rfl) .plain ?_; refine K.alloc rfl .plain ?_; refine K.storeAll rfl rfl rfl rfl rfl rfl .plain ?_; refine RunK.nil <| LWP.seq <| LWP.region (by kernel_rfl) <| kmv rfl <| kmv rfl <| kad rfl rfl ha1 <| kca rfl rfl hq <| kmv rfl <| kex rfl rfl <| kex rfl rfl <| kas rfl <| kas rfl <| RunK.nil <| LWP.seq ?_; refine LWP.seq <| LWP.region (by kernel_rfl) <| kmv rfl <| klt rfl rfl (decide_eq_false (by omega)) <| kmv rfl <| gmv rfl rfl rfl <| gmv rfl rfl rfl <| K.lenStr rfl (.taken rfl rfl) ?_; refine K.geq rfl rfl (decide_eq_true (by rw [hlen]; omega)) (.taken rfl rfl) ?_; refine kpf rfl rfl <| RunK.nil <| LWP.condT rfl ?_; refine LWP.seq <| LWP.region (by kernel_rfl) <| K.build rfl rfl (by exact rfl) (by exact nl2 rfl rfl rfl) .plain ?_; refine K.storeAll rfl rfl rfl rfl rfl rfl .plain ?_; refine kas rfl <| RunK.nil <| LWP.ret ?_)
                obtain ⟨q1, q2⟩ := decR_none (show decS l = none by rw [hl]; exact decS_none (by have hx := getCs_fail (k := nb.toNat - (cs.length + 1)) hcs (by rw [drop_cons hci]; exact getC_noN hT0); rw [show cs.length + 1 + (nb.toNat - (cs.length + 1)) = nb.toNat by omega] at hx; exact hx))
                rw [q1, q2]
                refine Leads.le (σ' := ⟨[(2, Lp 2), (3, Lb false)], [syZ 2], joinM X H⟩) (Le.of (by exact ⟨rfl, rfl, trivial⟩) (by exact ⟨rfl, trivial⟩) (by exact rfl) (by exact rfl) (by repeat' (first | refine all_cons_true ?_ ?_ | rfl | exact bytes_inUse | exact vals_inUse | exact mid_inUse rfl))) ?_
                refine Leads.le (Le.drop fun b o h => joinM_has hO h) (Leads.done ?_)
                exact ⟨[], ⟨[_, _], ⟨⟨_, _, rfl, rfl, rfl, .inl ⟨AggT.h, rfl⟩⟩, rfl, trivial⟩, rfl⟩, (by repeat' (first | exact trivial | refine And.intro ⟨_, rfl, ?_⟩ ?_ | refine And.intro ⟨_, rfl⟩ ?_ | rfl | exact Box.ren_bytes _ _ _ _ | exact Box.ren_vals _ _ _ _ | exact Box.ren_mid rfl)), rfl, rfl⟩
          · (refine LWP.seq <| LWP.seq <| LWP.region (by kernel_rfl) <| kmv rfl <| kmv rfl <| K.indexStr rfl rfl (by omega) hg5 .plain <| kcv rfl hwn ?_; refine klt rfl rfl (decide_eq_true (by omega)) <| RunK.nil <| LWP.condT rfl ?_; refine LWP.skip ?_; refine LWP.seq <| LWP.block <| LWP.seq <| LWP.seq <| LWP.region (by kernel_rfl) <| kmv rfl <| kmv rfl <| kln rfl <| K.geq rfl rfl (decide_eq_true (by rw [hlen]; omega)) .plain <| RunK.nil <| LWP.condT rfl ?_; refine LWP.seq <| LWP.region (by kernel_rfl) <| K.build rfl rfl (by exact rfl) (by exact nl2 rfl rfl rfl) .plain ?_; refine K.storeAll rfl rfl rfl rfl rfl rfl .plain ?_; refine kas rfl <| RunK.nil <| LWP.ret ?_)
            obtain ⟨q1, q2⟩ := decR_none (show decS l = none by rw [hl]; exact decS_none (by have hx := getCs_fail (k := nb.toNat - (cs.length + 1)) hcs (by rw [show l.drop at_ = [] from List.drop_eq_nil_of_le (by omega)]; exact getC_nil); rw [show cs.length + 1 + (nb.toNat - (cs.length + 1)) = nb.toNat by omega] at hx; exact hx))
            rw [q1, q2]
            refine Leads.le (σ' := ⟨[(2, Lp 2), (3, Lb false)], [syZ 2], joinM X H⟩) (Le.of (by exact ⟨rfl, rfl, trivial⟩) (by exact ⟨rfl, trivial⟩) (by exact rfl) (by exact rfl) (by repeat' (first | refine all_cons_true ?_ ?_ | rfl | exact bytes_inUse | exact vals_inUse | exact mid_inUse rfl))) ?_
            refine Leads.le (Le.drop fun b o h => joinM_has hO h) (Leads.done ?_)
            exact ⟨[], ⟨[_, _], ⟨⟨_, _, rfl, rfl, rfl, .inl ⟨AggT.h, rfl⟩⟩, rfl, trivial⟩, rfl⟩, (by repeat' (first | exact trivial | refine And.intro ⟨_, rfl, ?_⟩ ?_ | refine And.intro ⟨_, rfl⟩ ?_ | rfl | exact Box.ren_bytes _ _ _ _ | exact Box.ren_vals _ _ _ _ | exact Box.ren_mid rfl)), rfl, rfl⟩
        · have e : cs.length = nb.toNat := by omega
          rw [e] at hcs
          obtain ⟨_, _, hok⟩ := getCs_back hcs
          have hfb : ∀ c ∈ cs, c.fs.length < 4611686018427387904 := fun c hc => by have := (hok c hc).2.2.1; omega
          have hib : InB cs := fun c hc => by
            obtain ⟨h1, _, _, h4⟩ := hok c hc
            exact ⟨by omega, fun f hf => by obtain ⟨_, h5, h6⟩ := h4 f hf; omega⟩
          by_cases hend : at_ = l.length
          · have hdrop : l.drop at_ = [] := List.drop_eq_nil_of_le (by omega)
            rw [hdrop] at hcs
            have hS := decS_some (v0 := v0) (v1 := v1) (v2 := v2) (v3 := v3) hcs
            rw [hver, ← hl] at hS
            have hne1 : (((at_ : Nat) : Int) != ((⟨l.toArray⟩ : ByteArray).size : Int)) = false := by rw [hlen, hend]; simp
            have hck : PSpec Tryz.prog (joinM X H) 10 [Sx ver none 0 0] (Ln .i64 (chkE ⟨ver, cs⟩)) := by
              rw [hce]
              exact sCheck_spec (joinM X H) ⟨ver, []⟩ none 0 ⟨fun i c h => (by simp at h), fun c h => (by cases h)⟩ (by show 0 < 4611686018427387904; decide) (fun c h => (by cases h))
            by_cases hz : chkE ⟨ver, cs⟩ = 0
            · rw [if_pos hz] at hS
              rw [hz] at hck
              (refine LWP.seq <| LWP.seq <| LWP.region (by kernel_rfl) <| kmv rfl <| kmv rfl <| K.indexStr rfl rfl (by omega) hg5 .plain <| kcv rfl hwn ?_; refine klt rfl rfl (decide_eq_false (by omega)) <| RunK.nil <| LWP.condF rfl ?_; refine LWP.exit <| LWP.seq <| LWP.seq <| LWP.region (by kernel_rfl) <| kmv rfl <| kmv rfl <| kln rfl <| kne rfl rfl hne1 <| kmv rfl <| K.loadAll rfl rfl rfl (.taken rfl rfl) ?_; refine gca rfl rfl hck rfl rfl <| K.neq rfl rfl (r := false) (by decide) (.taken rfl rfl) ?_; refine kpf rfl rfl <| RunK.nil <| LWP.condF rfl ?_; refine LWP.skip ?_; refine LWP.seq <| LWP.region (by kernel_rfl) <| K.loadAll rfl rfl rfl .plain ?_; refine K.storeAll rfl rfl rfl rfl rfl rfl .plain ?_; refine kas rfl <| RunK.nil <| LWP.ret ?_)
              obtain ⟨q1, q2⟩ := decR_nil hS (by show cs.length = 0; omega)
              rw [q1, q2]
              refine Leads.le (σ' := ⟨[(2, Lp 2), (3, Lb true)], [syB 2 ver (.val (.slice none 0 0))], joinM X H⟩) (Le.of (by exact ⟨rfl, rfl, trivial⟩) (by exact ⟨rfl, trivial⟩) (by exact rfl) (by exact rfl) (by repeat' (first | refine all_cons_true ?_ ?_ | rfl | exact bytes_inUse | exact vals_inUse | exact mid_inUse rfl))) ?_
              refine Leads.le (Le.drop fun b o h => joinM_has hO h) (Leads.done ?_)
              exact ⟨[], ⟨[_, _], ⟨⟨_, _, rfl, rfl, rfl, .inl ⟨AggT.h, rfl⟩⟩, rfl, trivial⟩, rfl⟩, (by repeat' (first | exact trivial | refine And.intro ⟨_, rfl, ?_⟩ ?_ | refine And.intro ⟨_, rfl⟩ ?_ | rfl | exact Box.ren_bytes _ _ _ _ | exact Box.ren_vals _ _ _ _ | exact Box.ren_mid rfl)), rfl, rfl⟩
            · rw [if_neg hz] at hS
              have hne2 : (chkE ⟨ver, cs⟩ != 0) = true := by rw [bne_iff_ne]; exact hz
              generalize chkE ⟨ver, cs⟩ = ce at *
              (refine LWP.seq <| LWP.seq <| LWP.region (by kernel_rfl) <| kmv rfl <| kmv rfl <| K.indexStr rfl rfl (by omega) hg5 .plain <| kcv rfl hwn ?_; refine klt rfl rfl (decide_eq_false (by omega)) <| RunK.nil <| LWP.condF rfl ?_; refine LWP.exit <| LWP.seq <| LWP.seq <| LWP.region (by kernel_rfl) <| kmv rfl <| kmv rfl <| kln rfl <| kne rfl rfl hne1 <| kmv rfl <| K.loadAll rfl rfl rfl (.taken rfl rfl) ?_; refine gca rfl rfl hck rfl rfl <| K.neq rfl rfl hne2 (.taken rfl rfl) ?_; refine kpf rfl rfl <| RunK.nil <| LWP.condT rfl ?_; refine LWP.seq <| LWP.region (by kernel_rfl) <| K.build rfl rfl (by exact rfl) (by exact nl2 rfl rfl rfl) .plain ?_; refine K.storeAll rfl rfl rfl rfl rfl rfl .plain ?_; refine kas rfl <| RunK.nil <| LWP.ret ?_)
              obtain ⟨q1, q2⟩ := decR_none (show decS l = none by rw [hl]; exact (by rw [← hl]; exact hS))
              rw [q1, q2]
              refine Leads.le (σ' := ⟨[(2, Lp 2), (3, Lb false)], [syZ 2], joinM X H⟩) (Le.of (by exact ⟨rfl, rfl, trivial⟩) (by exact ⟨rfl, trivial⟩) (by exact rfl) (by exact rfl) (by repeat' (first | refine all_cons_true ?_ ?_ | rfl | exact bytes_inUse | exact vals_inUse | exact mid_inUse rfl))) ?_
              refine Leads.le (Le.drop fun b o h => joinM_has hO h) (Leads.done ?_)
              exact ⟨[], ⟨[_, _], ⟨⟨_, _, rfl, rfl, rfl, .inl ⟨AggT.h, rfl⟩⟩, rfl, trivial⟩, rfl⟩, (by repeat' (first | exact trivial | refine And.intro ⟨_, rfl, ?_⟩ ?_ | refine And.intro ⟨_, rfl⟩ ?_ | rfl | exact Box.ren_bytes _ _ _ _ | exact Box.ren_vals _ _ _ _ | exact Box.ren_mid rfl)), rfl, rfl⟩
          · have hne1 : (((at_ : Nat) : Int) != ((⟨l.toArray⟩ : ByteArray).size : Int)) = true := by rw [bne_iff_ne, hlen]; omega
            (refine LWP.seq <| LWP.seq <| LWP.region (by kernel_rfl) <| kmv rfl <| kmv rfl <| K.indexStr rfl rfl (by omega) hg5 .plain <| kcv rfl hwn ?_; refine klt rfl rfl (decide_eq_false (by omega)) <| RunK.nil <| LWP.condF rfl ?_; refine LWP.exit <| LWP.seq <| LWP.seq <| LWP.region (by kernel_rfl) <| kmv rfl <| kmv rfl <| kln rfl <| kne rfl rfl hne1 <| kmv rfl <| RunK.passed rfl rfl rfl <| RunK.passed rfl rfl rfl <| RunK.passed rfl rfl rfl <| kpt rfl rfl <| RunK.nil ?_; refine LWP.condT rfl ?_; refine LWP.seq <| LWP.region (by kernel_rfl) <| K.build rfl rfl (by exact rfl) (by exact nl2 rfl rfl rfl) .plain ?_; refine K.storeAll rfl rfl rfl rfl rfl rfl .plain ?_; refine kas rfl <| RunK.nil <| LWP.ret ?_)
            obtain ⟨q1, q2⟩ := decR_none (show decS l = none by rw [hl]; exact decS_rest hcs (fun h => hend (by have := congrArg List.length h; rw [List.length_drop, List.length_nil] at this; omega)))
            rw [q1, q2]
            refine Leads.le (σ' := ⟨[(2, Lp 2), (3, Lb false)], [syZ 2], joinM X H⟩) (Le.of (by exact ⟨rfl, rfl, trivial⟩) (by exact ⟨rfl, trivial⟩) (by exact rfl) (by exact rfl) (by repeat' (first | refine all_cons_true ?_ ?_ | rfl | exact bytes_inUse | exact vals_inUse | exact mid_inUse rfl))) ?_
            refine Leads.le (Le.drop fun b o h => joinM_has hO h) (Leads.done ?_)
            exact ⟨[], ⟨[_, _], ⟨⟨_, _, rfl, rfl, rfl, .inl ⟨AggT.h, rfl⟩⟩, rfl, trivial⟩, rfl⟩, (by repeat' (first | exact trivial | refine And.intro ⟨_, rfl, ?_⟩ ?_ | refine And.intro ⟨_, rfl⟩ ?_ | rfl | exact Box.ren_bytes _ _ _ _ | exact Box.ren_vals _ _ _ _ | exact Box.ren_mid rfl)), rfl, rfl⟩
    · as_aux_lemma =>
        by_cases hlt : cs.length < nb.toNat
        · by_cases hat : at_ < l.length
          · obtain ⟨ci, hci⟩ : ∃ x, l[at_]? = some x := ⟨_, List.getElem?_eq_getElem hat⟩
            have hgi : (⟨l.toArray⟩ : ByteArray)[((at_ : Nat) : Int).toNat]? = some ci := str_at (by rw [Int.toNat_natCast]; exact hci)
            have hwi : IntKind.i64.wrap ((ci.toNat : Nat) : Int) = ((ci.toNat : Nat) : Int) := wrap_i64 (by have := ci.toNat_lt; omega)
            have ha1 : IntKind.i64.wrap (((at_ : Nat) : Int) + 1) = ((at_ + 1 : Nat) : Int) := by rw [wrap_i64 (by omega)]; omega
            cases hT0 : getT (l.drop (at_ + 1)) with
            | none =>
              have hq := text_none (joinM X H) l (at_ + 1) (by omega) (by omega) hT0
              (refine LWP.seq <| LWP.seq <| LWP.region (by kernel_rfl) <| kmv rfl <| kmv rfl <| K.indexStr rfl rfl (by omega) hg5 .plain <| kcv rfl hwn ?_; refine klt rfl rfl (decide_eq_true (by omega)) <| RunK.nil <| LWP.condT rfl ?_; refine LWP.skip ?_; refine LWP.seq <| LWP.block <| LWP.seq <| LWP.seq <| LWP.region (by kernel_rfl) <| kmv rfl <| kmv rfl <| kln rfl <| K.geq rfl rfl (decide_eq_false (by rw [hlen]; omega)) .plain <| RunK.nil <| LWP.condF rfl ?_; refine LWP.skip ?_; refine LWP.seq <| LWP.region (by kernel_rfl) <| kmv rfl <| kmv rfl <| K.indexStr rfl rfl (by omega) hgi .plain <| kcv rfl hwi ?_; refine K.build rfl rfl (by exact rfl) (by exact nl3 rfl rfl rfl rfl) .plain ?_; refine K.alloc rfl .plain ?_; refine K.storeAll rfl rfl rfl rfl rfl rfl .plain ?_; refine RunK.nil <| LWP.seq <| LWP.region (by kernel_rfl) <| kmv rfl <| kmv rfl <| kad rfl rfl ha1 <| kca rfl rfl hq <| kmv rfl <| kex rfl rfl <| kex rfl rfl <| kas rfl <| kas rfl <| RunK.nil <| LWP.seq ?_; refine LWP.seq <| LWP.region (by kernel_rfl) <| kmv rfl <| klt rfl rfl (decide_eq_true (by omega)) <| kmv rfl <| RunK.passed rfl rfl rfl <| RunK.passed rfl rfl rfl <| RunK.passed rfl rfl rfl <| RunK.passed rfl rfl rfl <| kpt rfl rfl <| RunK.nil <| LWP.condT rfl ?_; refine LWP.seq <| LWP.region (by kernel_rfl) <| K.build rfl rfl (by exact rfl) (by exact nl2 rfl rfl rfl) .plain ?_; refine K.storeAll rfl rfl rfl rfl rfl rfl .plain ?_; refine kas rfl <| RunK.nil <| LWP.ret ?_)
              obtain ⟨q1, q2⟩ := decR_none (show decS l = none by rw [hl]; exact decS_none (by have hx := getCs_fail (k := nb.toNat - (cs.length + 1)) hcs (by rw [drop_cons hci]; exact getC_noT hT0); rw [show cs.length + 1 + (nb.toNat - (cs.length + 1)) = nb.toNat by omega] at hx; exact hx))
              rw [q1, q2]
              refine Leads.le (σ' := ⟨[(2, Lp 2), (3, Lb false)], [syZ 2], joinM X H⟩) (Le.of (by exact ⟨rfl, rfl, trivial⟩) (by exact ⟨rfl, trivial⟩) (by exact rfl) (by exact rfl) (by repeat' (first | refine all_cons_true ?_ ?_ | rfl | exact bytes_inUse | exact vals_inUse | exact mid_inUse rfl))) ?_
              refine Leads.le (Le.drop fun b o h => joinM_has hO h) (Leads.done ?_)
              exact ⟨[], ⟨[_, _], ⟨⟨_, _, rfl, rfl, rfl, .inl ⟨AggT.h, rfl⟩⟩, rfl, trivial⟩, rfl⟩, (by repeat' (first | exact trivial | refine And.intro ⟨_, rfl, ?_⟩ ?_ | refine And.intro ⟨_, rfl⟩ ?_ | rfl | exact Box.ren_bytes _ _ _ _ | exact Box.ren_vals _ _ _ _ | exact Box.ren_mid rfl)), rfl, rfl⟩
            | some p =>
              obtain ⟨nm, t⟩ := p
              obtain ⟨hq, ht, hbd⟩ := text_some (joinM X H) l (at_ + 1) (by omega) hT0
              generalize hnx : at_ + 1 + 1 + nm.length = nx at *
              by_cases hnl : nx < l.length
              · obtain ⟨mm, hmm⟩ : ∃ x, l[nx]? = some x := ⟨_, List.getElem?_eq_getElem hnl⟩
                rw [ht, drop_cons hmm] at hT0
                have hgm : (⟨l.toArray⟩ : ByteArray)[((nx : Nat) : Int).toNat]? = some mm := str_at (by rw [Int.toNat_natCast]; exact hmm)
                have hwm : IntKind.i64.wrap ((mm.toNat : Nat) : Int) = ((mm.toNat : Nat) : Int) := wrap_i64 (by have := mm.toNat_lt; omega)
                have han : IntKind.i64.wrap (((nx : Nat) : Int) + 1) = ((nx + 1 : Nat) : Int) := by rw [wrap_i64 (by omega)]; omega
                (refine LWP.seq <| LWP.seq <| LWP.region (by kernel_rfl) <| kmv rfl <| kmv rfl <| K.indexStr rfl rfl (by omega) hg5 .plain <| kcv rfl hwn ?_; refine klt rfl rfl (decide_eq_true (by omega)) <| RunK.nil <| LWP.condT rfl ?_; refine LWP.skip ?_; refine LWP.seq <| LWP.block <| LWP.seq <| LWP.seq <| LWP.region (by kernel_rfl) <| kmv rfl <| kmv rfl <| kln rfl <| K.geq rfl rfl (decide_eq_false (by rw [hlen]; omega)) .plain <| RunK.nil <| LWP.condF rfl ?_; refine LWP.skip ?_; refine LWP.seq <| LWP.region (by kernel_rfl) <| kmv rfl <| kmv rfl <| K.indexStr rfl rfl (by omega) hgi .plain <| kcv rfl hwi ?_; refine K.build rfl rfl (by exact rfl) (by exact nl3 rfl rfl rfl rfl) .plain ?_; refine K.alloc rfl .plain ?_; refine K.storeAll rfl rfl rfl rfl rfl rfl .plain ?_; refine RunK.nil <| LWP.seq <| LWP.region (by kernel_rfl) <| kmv rfl <| kmv rfl <| kad rfl rfl ha1 <| kca rfl rfl hq <| kmv rfl <| kex rfl rfl <| kex rfl rfl <| kas rfl <| kas rfl <| RunK.nil <| LWP.seq ?_; refine LWP.seq <| LWP.region (by kernel_rfl) <| kmv rfl <| klt rfl rfl (decide_eq_false (by omega)) <| kmv rfl <| gmv rfl rfl rfl <| gmv rfl rfl rfl <| K.lenStr rfl (.taken rfl rfl) ?_; refine K.geq rfl rfl (decide_eq_false (by rw [hlen]; omega)) (.taken rfl rfl) ?_; refine kpf rfl rfl <| RunK.nil <| LWP.condF rfl ?_; refine LWP.skip ?_; refine LWP.seq <| LWP.region (by kernel_rfl) <| kmv rfl <| kfa rfl rfl ?_; refine K.storeOne rfl rfl rfl rfl rfl (nl3 rfl rfl rfl rfl) .plain <| RunK.nil <| LWP.seq <| LWP.region (by kernel_rfl) <| kmv rfl <| kmv rfl <| K.indexStr rfl rfl (by omega) hgm .plain <| kcv rfl hwm ?_; refine kas rfl <| RunK.nil <| LWP.seq <| LWP.region (by kernel_rfl) <| kmv rfl <| kad rfl rfl han <| kas rfl <| RunK.nil <| LWP.seq <| LWP.seq <| LWP.region (by kernel_rfl) <| kas rfl <| RunK.nil <| LWP.block ?_)
                refine LWP.loop (fun m σ => ∃ (at2 : Nat) (fs : List Fl), fs.length ≤ mm.toNat ∧ m = mm.toNat - fs.length ∧ at2 ≤ l.length ∧ getFs fs.length (l.drop (nx + 1)) = some (fs, l.drop at2) ∧ ((fs = [] ∧ σ = inSt l at2 cs.length mm.toNat fs.length [cpX 7 (ci.toNat : Nat) nm (.val (.slice none 0 0)), (600, some ⟨60, (rowsZ cs cells).map .val, true⟩), syB 4 ver (.slc 600 0 cs.length 3), syZ 2] (joinM X H)) ∨ (fs ≠ [] ∧ σ = inSt l at2 cs.length mm.toNat fs.length [(601, some ⟨57, (flV (fs)).map .val, true⟩), cpX 7 (ci.toNat : Nat) nm (.slc 601 0 (fs).length 3), (600, some ⟨60, (rowsZ cs cells).map .val, true⟩), syB 4 ver (.slc 600 0 cs.length 3), syZ 2] (joinM X H)))) mm.toNat
                  ⟨inSt l (nx + 1) cs.length mm.toNat 0 [cpX 7 (ci.toNat : Nat) nm (.val (.slice none 0 0)), (600, some ⟨60, (rowsZ cs cells).map .val, true⟩), syB 4 ver (.slc 600 0 cs.length 3), syZ 2] (joinM X H), Le.of (by exact ⟨rfl, rfl, rfl, rfl, rfl, rfl, rfl, rfl, trivial⟩) (by exact ⟨rfl, rfl, rfl, rfl, trivial⟩) (by exact rfl) (by exact rfl) (by repeat' (first | refine all_cons_true ?_ ?_ | rfl | exact bytes_inUse | exact vals_inUse | exact mid_inUse rfl)), nx + 1, [], Nat.zero_le _, rfl, by omega, rfl, .inl ⟨rfl, rfl⟩⟩ ?_
                rintro m σ ⟨at2, fs, hfm, rfl, hat2, hfs, hst⟩
                rcases hst with ⟨hfe, rfl⟩ | ⟨hfe, rfl⟩
                · as_aux_lemma =>
                    by_cases hkm : fs.length < mm.toNat
                    · cases hT : getT (l.drop at2) with
                      | none =>
                        have hq := text_none (joinM X H) l at2 (by omega) (by omega) hT
                        (refine LWP.seq <| LWP.seq <| LWP.region (by kernel_rfl) <| kmv rfl <| kmv rfl <| klt rfl rfl (decide_eq_true (by omega)) <| RunK.nil <| LWP.condT rfl ?_; refine LWP.skip ?_; refine LWP.seq <| LWP.block <| LWP.seq <| LWP.region (by kernel_rfl) <| kmv rfl <| kmv rfl <| kca rfl rfl hq <| kmv rfl <| kex rfl rfl <| kex rfl rfl <| kas rfl <| kas rfl <| RunK.nil <| LWP.seq ?_; refine LWP.seq <| LWP.region (by kernel_rfl) <| kmv rfl <| klt rfl rfl (decide_eq_true (by omega)) <| kmv rfl <| RunK.passed rfl rfl rfl <| RunK.passed rfl rfl rfl <| RunK.passed rfl rfl rfl <| RunK.passed rfl rfl rfl <| RunK.passed rfl rfl rfl <| kpt rfl rfl <| RunK.nil <| LWP.condT rfl ?_; refine LWP.seq <| LWP.region (by kernel_rfl) <| K.build rfl rfl (by exact rfl) (by exact nl2 rfl rfl rfl) .plain ?_; refine K.storeAll rfl rfl rfl rfl rfl rfl .plain ?_; refine kas rfl <| RunK.nil <| LWP.ret ?_)
                        obtain ⟨q1, q2⟩ := decR_none (show decS l = none by rw [hl]; exact decS_none (by have hx := getCs_fail (k := nb.toNat - (cs.length + 1)) hcs (by rw [drop_cons hci]; exact getC_noF hT0 (by have hy := getFs_fail (k := mm.toNat - (fs.length + 1)) hfs (getF_noT hT); rw [show fs.length + 1 + (mm.toNat - (fs.length + 1)) = mm.toNat by omega] at hy; exact hy)); rw [show cs.length + 1 + (nb.toNat - (cs.length + 1)) = nb.toNat by omega] at hx; exact hx))
                        rw [q1, q2]
                        refine Leads.le (σ' := ⟨[(2, Lp 2), (3, Lb false)], [syZ 2], joinM X H⟩) (Le.of (by exact ⟨rfl, rfl, trivial⟩) (by exact ⟨rfl, trivial⟩) (by exact rfl) (by exact rfl) (by repeat' (first | refine all_cons_true ?_ ?_ | rfl | exact bytes_inUse | exact vals_inUse | exact mid_inUse rfl))) ?_
                        refine Leads.le (Le.drop fun b o h => joinM_has hO h) (Leads.done ?_)
                        exact ⟨[], ⟨[_, _], ⟨⟨_, _, rfl, rfl, rfl, .inl ⟨AggT.h, rfl⟩⟩, rfl, trivial⟩, rfl⟩, (by repeat' (first | exact trivial | refine And.intro ⟨_, rfl, ?_⟩ ?_ | refine And.intro ⟨_, rfl⟩ ?_ | rfl | exact Box.ren_bytes _ _ _ _ | exact Box.ren_vals _ _ _ _ | exact Box.ren_mid rfl)), rfl, rfl⟩
                      | some p =>
                        obtain ⟨fn, t2⟩ := p
                        obtain ⟨hq, ht2, hbd⟩ := text_some (joinM X H) l at2 (by omega) hT
                        generalize hbh : at2 + 1 + fn.length = bh at *
                        have ha2 : IntKind.i64.wrap (((bh : Nat) : Int) + 2) = ((bh + 2 : Nat) : Int) := by rw [wrap_i64 (by omega)]; omega
                        have ha1 : IntKind.i64.wrap (((bh : Nat) : Int) + 1) = ((bh + 1 : Nat) : Int) := by rw [wrap_i64 (by omega)]; omega
                        by_cases hroom : bh + 2 ≤ l.length
                        · obtain ⟨k1, hk1⟩ : ∃ x, l[bh]? = some x := ⟨_, List.getElem?_eq_getElem (by omega)⟩
                          obtain ⟨k2, hk2⟩ : ∃ x, l[bh + 1]? = some x := ⟨_, List.getElem?_eq_getElem (by omega)⟩
                          have hT2 : getT (l.drop at2) = some (fn, k1 :: k2 :: l.drop (bh + 2)) := by rw [hT, ht2, drop_cons hk1, drop_cons hk2]
                          have hstep := getFs_step hfs (getF_yes hT2)
                          have hw1 : IntKind.i64.wrap ((k1.toNat : Nat) : Int) = ((k1.toNat : Nat) : Int) := wrap_i64 (by have := k1.toNat_lt; omega)
                          have hw2 : IntKind.i64.wrap ((k2.toNat : Nat) : Int) = ((k2.toNat : Nat) : Int) := wrap_i64 (by have := k2.toNat_lt; omega)
                          have hg1 : (⟨l.toArray⟩ : ByteArray)[((bh : Nat) : Int).toNat]? = some k1 := str_at (by rw [Int.toNat_natCast]; exact hk1)
                          have hg2 : (⟨l.toArray⟩ : ByteArray)[((bh + 1 : Nat) : Int).toNat]? = some k2 := str_at (by rw [Int.toNat_natCast]; exact hk2)
                          have hmm := mm.toNat_lt
                          have hkk : IntKind.i64.wrap (((fs.length : Nat) : Int) + 1) = ((fs.length + 1 : Nat) : Int) := by rw [wrap_i64 (by omega)]; omega
                          generalize hfdef : (⟨fn, (k1.toNat : Nat), (k2.toNat : Nat)⟩ : Fl) = f at *
                          have hfv : f.vals.map CV.val = [.val (.string ⟨fn.toArray⟩), .val (.int .i64 (k1.toNat : Nat)), .val (.int .i64 (k2.toNat : Nat))] := by rw [← hfdef]; rfl
                          have hsnoc := flV_snoc fs f
                          have hnl : fs.length + 1 = (fs ++ [f]).length := by rw [List.length_append]; rfl
                          have hfl : ((flV fs).map CV.val).length = fs.length * 3 := by rw [List.length_map, flV_len]
                          have hnc : (flV fs).map CV.val ++ [.val (.string ⟨fn.toArray⟩), .val (.int .i64 (k1.toNat : Nat)), .val (.int .i64 (k2.toNat : Nat))] = (flV (fs ++ [f])).map .val := by rw [hsnoc, List.map_append, hfv]
                          (refine LWP.seq <| LWP.seq <| LWP.region (by kernel_rfl) <| kmv rfl <| kmv rfl <| klt rfl rfl (decide_eq_true (by omega)) <| RunK.nil <| LWP.condT rfl ?_; refine LWP.skip ?_; refine LWP.seq <| LWP.block <| LWP.seq <| LWP.region (by kernel_rfl) <| kmv rfl <| kmv rfl <| kca rfl rfl hq <| kmv rfl <| kex rfl rfl <| kex rfl rfl <| kas rfl <| kas rfl <| RunK.nil <| LWP.seq ?_; refine LWP.seq <| LWP.region (by kernel_rfl) <| kmv rfl <| klt rfl rfl (decide_eq_false (by omega)) <| kmv rfl <| gmv rfl rfl rfl <| K.add rfl rfl ha2 (.taken rfl rfl) ?_; refine gmv rfl rfl rfl <| K.lenStr rfl (.taken rfl rfl) ?_; refine K.gtr rfl rfl (decide_eq_false (by rw [hlen]; omega)) (.taken rfl rfl) ?_; refine kpf rfl rfl <| RunK.nil <| LWP.condF rfl ?_; refine LWP.skip ?_; refine LWP.seq <| LWP.draws mixed (by kernel_rfl) <| kfa rfl rfl ?_; refine kl1 rfl rfl rfl <| kmv rfl <| kmv rfl <| kmv rfl <| K.indexStr rfl rfl (by omega) hg1 .plain <| kcv rfl hw1 ?_; refine kmv rfl <| kmv rfl <| kad rfl rfl ha1 <| K.indexStr rfl rfl (by omega) hg2 .plain <| kcv rfl hw2 ?_; refine K.build rfl rfl (by exact rfl) (by exact nl3 rfl rfl rfl rfl) .plain ?_; refine K.buildSlc (zs := [.string ⟨#[]⟩, .int .i64 0, .int .i64 0]) (sz := 3) (e := 57) (cs' := [.val (.string ⟨fn.toArray⟩), .val (.int .i64 (k1.toNat : Nat)), .val (.int .i64 (k2.toNat : Nat))]) (by kernel_rfl) rfl rfl rfl rfl rfl rfl .plain <| K.appendNil (by_ := 32) (e := 57) (e2 := 57) (l2 := [.val (.string ⟨fn.toArray⟩), .val (.int .i64 (k1.toNat : Nat)), .val (.int .i64 (k2.toNat : Nat))]) rfl rfl rfl (Nat.le_refl _) rfl rfl (by decide) (by kernel_rfl) (by kernel_rfl) (by omega) (by omega) rfl .plain ?_; refine kfa rfl rfl ?_; refine K.storeOne rfl rfl rfl rfl rfl (nl3 rfl rfl rfl rfl) .plain <| RunK.nil <| And.intro (by kernel_rfl) ?_; refine LWP.region (by kernel_rfl) <| kmv rfl <| kad rfl rfl ha2 <| kas rfl <| RunK.nil <| LWP.region (by kernel_rfl) <| kmv rfl <| kad rfl rfl hkk <| kas rfl <| RunK.nil ?_)
                          refine ⟨_, inSt l (bh + 2) cs.length mm.toNat (fs ++ [f]).length [(601, some ⟨57, (flV (fs ++ [f])).map .val, true⟩), cpX 7 (ci.toNat : Nat) nm (.slc 601 0 (fs ++ [f]).length 3), (600, some ⟨60, (rowsZ cs cells).map .val, true⟩), syB 4 ver (.slc 600 0 cs.length 3), syZ 2] (joinM X H), ?_, ?_, bh + 2, fs ++ [f], ?_, rfl, by omega, ?_, .inr ⟨by simp, rfl⟩⟩
                          · rw [List.length_append]; simp only [List.length_singleton]; omega
                          · rw [← hnl]
                            rw [show fs = [] from hfe] at hsnoc ⊢
                            rw [show (flV ([] ++ [f])).map CV.val = [.val (.string ⟨fn.toArray⟩), .val (.int .i64 (k1.toNat : Nat)), .val (.int .i64 (k2.toNat : Nat))] from hfv]
                            exact Le.ofR [(601, 119)] (by exact ⟨rfl, rfl, rfl, rfl, rfl, rfl, rfl, rfl, trivial⟩) (by repeat' (first | exact trivial | refine And.intro ⟨_, rfl, ?_⟩ ?_ | refine And.intro ⟨_, rfl⟩ ?_ | rfl | exact Box.ren_bytes _ _ _ _ | exact Box.ren_vals _ _ _ _ | exact Box.ren_mid rfl)) (by exact rfl) (by exact rfl) (by repeat' (first | refine all_cons_true ?_ ?_ | rfl | exact bytes_inUse | exact vals_inUse | exact mid_inUse rfl)) (by exact rfl) (by exact rfl)
                          · rw [List.length_append]; simp only [List.length_singleton]; omega
                          · rw [← hnl]; exact hstep
                        · have hsh : (l.drop bh).length < 2 := by rw [List.length_drop]; omega
                          rw [ht2] at hT
                          (refine LWP.seq <| LWP.seq <| LWP.region (by kernel_rfl) <| kmv rfl <| kmv rfl <| klt rfl rfl (decide_eq_true (by omega)) <| RunK.nil <| LWP.condT rfl ?_; refine LWP.skip ?_; refine LWP.seq <| LWP.block <| LWP.seq <| LWP.region (by kernel_rfl) <| kmv rfl <| kmv rfl <| kca rfl rfl hq <| kmv rfl <| kex rfl rfl <| kex rfl rfl <| kas rfl <| kas rfl <| RunK.nil <| LWP.seq ?_; refine LWP.seq <| LWP.region (by kernel_rfl) <| kmv rfl <| klt rfl rfl (decide_eq_false (by omega)) <| kmv rfl <| gmv rfl rfl rfl <| K.add rfl rfl ha2 (.taken rfl rfl) ?_; refine gmv rfl rfl rfl <| K.lenStr rfl (.taken rfl rfl) ?_; refine K.gtr rfl rfl (decide_eq_true (by rw [hlen]; omega)) (.taken rfl rfl) ?_; refine kpf rfl rfl <| RunK.nil <| LWP.condT rfl ?_; refine LWP.seq <| LWP.region (by kernel_rfl) <| K.build rfl rfl (by exact rfl) (by exact nl2 rfl rfl rfl) .plain ?_; refine K.storeAll rfl rfl rfl rfl rfl rfl .plain ?_; refine kas rfl <| RunK.nil <| LWP.ret ?_)
                          obtain ⟨q1, q2⟩ := decR_none (show decS l = none by rw [hl]; exact decS_none (by have hx := getCs_fail (k := nb.toNat - (cs.length + 1)) hcs (by rw [drop_cons hci]; exact getC_noF hT0 (by have hy := getFs_fail (k := mm.toNat - (fs.length + 1)) hfs (getF_short hT hsh); rw [show fs.length + 1 + (mm.toNat - (fs.length + 1)) = mm.toNat by omega] at hy; exact hy)); rw [show cs.length + 1 + (nb.toNat - (cs.length + 1)) = nb.toNat by omega] at hx; exact hx))
                          rw [q1, q2]
                          refine Leads.le (σ' := ⟨[(2, Lp 2), (3, Lb false)], [syZ 2], joinM X H⟩) (Le.of (by exact ⟨rfl, rfl, trivial⟩) (by exact ⟨rfl, trivial⟩) (by exact rfl) (by exact rfl) (by repeat' (first | refine all_cons_true ?_ ?_ | rfl | exact bytes_inUse | exact vals_inUse | exact mid_inUse rfl))) ?_
                          refine Leads.le (Le.drop fun b o h => joinM_has hO h) (Leads.done ?_)
                          exact ⟨[], ⟨[_, _], ⟨⟨_, _, rfl, rfl, rfl, .inl ⟨AggT.h, rfl⟩⟩, rfl, trivial⟩, rfl⟩, (by repeat' (first | exact trivial | refine And.intro ⟨_, rfl, ?_⟩ ?_ | refine And.intro ⟨_, rfl⟩ ?_ | rfl | exact Box.ren_bytes _ _ _ _ | exact Box.ren_vals _ _ _ _ | exact Box.ren_mid rfl)), rfl, rfl⟩
                    · have e : fs.length = mm.toNat := by omega
                      rw [e] at hfs
                      have hC := getC_yes (i := ci) hT0 hfs
                      have hstep := getCs_step hcs (by rw [drop_cons hci]; exact hC)
                      have hrl : ((rowsZ cs cells).map CV.val).length = cs.length * 3 := by rw [List.length_map, rowsZ_len hcl]
                      have hii : IntKind.i64.wrap (((cs.length : Nat) : Int) + 1) = ((cs.length + 1 : Nat) : Int) := by rw [wrap_i64 (by omega)]; omega
                      have hnc3 : (rowsZ cs cells).map CV.val ++ [.val (.int .i64 (ci.toNat : Nat)), .val (.string ⟨nm.toArray⟩), .val (.slice none 0 0)] = (rowsZ (cs ++ [(⟨(ci.toNat : Nat), nm, fs⟩ : Cp)]) (cells ++ [.slice none 0 0])).map .val := by
                        rw [rowsZ_add hcl]; simp
                      (refine LWP.seq <| LWP.seq <| LWP.region (by kernel_rfl) <| kmv rfl <| kmv rfl <| klt rfl rfl (decide_eq_false (by omega)) <| RunK.nil <| LWP.condF rfl ?_; refine LWP.exit <| LWP.region (by kernel_rfl) <| kfa rfl rfl ?_; refine kl1 rfl rfl rfl <| K.loadAll rfl rfl rfl .plain ?_; refine K.buildSlc (zs := [.int .i64 0, .string ⟨#[]⟩, .slice none 0 0]) (sz := 3) (e := 60) (cs' := [.val (.int .i64 (ci.toNat : Nat)), .val (.string ⟨nm.toArray⟩), .val (.slice none 0 0)]) (by kernel_rfl) rfl rfl rfl rfl rfl rfl .plain <| K.appendSlc (by_ := 48) (e2 := 60) (l2 := [.val (.int .i64 (ci.toNat : Nat)), .val (.string ⟨nm.toArray⟩), .val (.slice none 0 0)]) (nl := cs.length + 1) (nc := (rowsZ (cs ++ [(⟨(ci.toNat : Nat), nm, fs⟩ : Cp)]) (cells ++ [.slice none 0 0])).map .val) rfl rfl hrl rfl rfl (Nat.le_refl _) rfl rfl (by kernel_rfl) (by kernel_rfl) (by omega) (by omega) rfl rfl hnc3 .plain <| kfa rfl rfl ?_; refine K.storeOne rfl rfl rfl rfl rfl (nl2 rfl rfl rfl) .plain <| RunK.nil <| LWP.region (by kernel_rfl) <| kmv rfl <| kad rfl rfl hii <| kas rfl <| RunK.nil ?_)
                      have hcn : (cs ++ [(⟨(ci.toNat : Nat), nm, fs⟩ : Cp)]).length = cs.length + 1 := by rw [List.length_append]; rfl
                      refine Leads.le (σ' := ⟨[(0, Ls l), (2, Lp 2), (4, Lp 4), (5, Ln .i64 (at2 : Nat)), (6, Ln .i64 (cs.length + 1 : Nat))], [(600, some ⟨60, (rowsZ (cs ++ [(⟨(ci.toNat : Nat), nm, fs⟩ : Cp)]) (cells ++ [.slice none 0 0])).map .val, true⟩), syB 4 ver (.slc 600 0 (cs.length + 1) 3), syZ 2], joinM X H⟩) ?_ (Leads.done ⟨nb.toNat - (cs.length + 1), by omega, cs.length + 1, at2, cs ++ [⟨(ci.toNat : Nat), nm, fs⟩], cells ++ [.slice none 0 0], H, by omega, rfl, by omega, hstep, hcn, hO, ?_, .inr ⟨by omega, by rw [hcn]⟩⟩)
                      · exact Le.ofR [(600, 127)] (by exact ⟨rfl, rfl, rfl, rfl, rfl, trivial⟩) (by repeat' (first | exact trivial | refine And.intro ⟨_, rfl, ?_⟩ ?_ | refine And.intro ⟨_, rfl⟩ ?_ | rfl | exact Box.ren_bytes _ _ _ _ | exact Box.ren_vals _ _ _ _ | exact Box.ren_mid rfl)) (by exact rfl) (by exact rfl) (by repeat' (first | refine all_cons_true ?_ ?_ | rfl | exact bytes_inUse | exact vals_inUse | exact mid_inUse rfl)) (by exact rfl) (by exact rfl)
                      · rw [List.map_append, List.map_cons, List.map_nil, show flV fs = [] by rw [show fs = [] from hfe]; rfl]
                        exact G.pushZ none 0
                · as_aux_lemma =>
                    by_cases hkm : fs.length < mm.toNat
                    · cases hT : getT (l.drop at2) with
                      | none =>
                        have hq := text_none (joinM X H) l at2 (by omega) (by omega) hT
                        (refine LWP.seq <| LWP.seq <| LWP.region (by kernel_rfl) <| kmv rfl <| kmv rfl <| klt rfl rfl (decide_eq_true (by omega)) <| RunK.nil <| LWP.condT rfl ?_; refine LWP.skip ?_; refine LWP.seq <| LWP.block <| LWP.seq <| LWP.region (by kernel_rfl) <| kmv rfl <| kmv rfl <| kca rfl rfl hq <| kmv rfl <| kex rfl rfl <| kex rfl rfl <| kas rfl <| kas rfl <| RunK.nil <| LWP.seq ?_; refine LWP.seq <| LWP.region (by kernel_rfl) <| kmv rfl <| klt rfl rfl (decide_eq_true (by omega)) <| kmv rfl <| RunK.passed rfl rfl rfl <| RunK.passed rfl rfl rfl <| RunK.passed rfl rfl rfl <| RunK.passed rfl rfl rfl <| RunK.passed rfl rfl rfl <| kpt rfl rfl <| RunK.nil <| LWP.condT rfl ?_; refine LWP.seq <| LWP.region (by kernel_rfl) <| K.build rfl rfl (by exact rfl) (by exact nl2 rfl rfl rfl) .plain ?_; refine K.storeAll rfl rfl rfl rfl rfl rfl .plain ?_; refine kas rfl <| RunK.nil <| LWP.ret ?_)
                        obtain ⟨q1, q2⟩ := decR_none (show decS l = none by rw [hl]; exact decS_none (by have hx := getCs_fail (k := nb.toNat - (cs.length + 1)) hcs (by rw [drop_cons hci]; exact getC_noF hT0 (by have hy := getFs_fail (k := mm.toNat - (fs.length + 1)) hfs (getF_noT hT); rw [show fs.length + 1 + (mm.toNat - (fs.length + 1)) = mm.toNat by omega] at hy; exact hy)); rw [show cs.length + 1 + (nb.toNat - (cs.length + 1)) = nb.toNat by omega] at hx; exact hx))
                        rw [q1, q2]
                        refine Leads.le (σ' := ⟨[(2, Lp 2), (3, Lb false)], [syZ 2], joinM X H⟩) (Le.of (by exact ⟨rfl, rfl, trivial⟩) (by exact ⟨rfl, trivial⟩) (by exact rfl) (by exact rfl) (by repeat' (first | refine all_cons_true ?_ ?_ | rfl | exact bytes_inUse | exact vals_inUse | exact mid_inUse rfl))) ?_
                        refine Leads.le (Le.drop fun b o h => joinM_has hO h) (Leads.done ?_)
                        exact ⟨[], ⟨[_, _], ⟨⟨_, _, rfl, rfl, rfl, .inl ⟨AggT.h, rfl⟩⟩, rfl, trivial⟩, rfl⟩, (by repeat' (first | exact trivial | refine And.intro ⟨_, rfl, ?_⟩ ?_ | refine And.intro ⟨_, rfl⟩ ?_ | rfl | exact Box.ren_bytes _ _ _ _ | exact Box.ren_vals _ _ _ _ | exact Box.ren_mid rfl)), rfl, rfl⟩
                      | some p =>
                        obtain ⟨fn, t2⟩ := p
                        obtain ⟨hq, ht2, hbd⟩ := text_some (joinM X H) l at2 (by omega) hT
                        generalize hbh : at2 + 1 + fn.length = bh at *
                        have ha2 : IntKind.i64.wrap (((bh : Nat) : Int) + 2) = ((bh + 2 : Nat) : Int) := by rw [wrap_i64 (by omega)]; omega
                        have ha1 : IntKind.i64.wrap (((bh : Nat) : Int) + 1) = ((bh + 1 : Nat) : Int) := by rw [wrap_i64 (by omega)]; omega
                        by_cases hroom : bh + 2 ≤ l.length
                        · obtain ⟨k1, hk1⟩ : ∃ x, l[bh]? = some x := ⟨_, List.getElem?_eq_getElem (by omega)⟩
                          obtain ⟨k2, hk2⟩ : ∃ x, l[bh + 1]? = some x := ⟨_, List.getElem?_eq_getElem (by omega)⟩
                          have hT2 : getT (l.drop at2) = some (fn, k1 :: k2 :: l.drop (bh + 2)) := by rw [hT, ht2, drop_cons hk1, drop_cons hk2]
                          have hstep := getFs_step hfs (getF_yes hT2)
                          have hw1 : IntKind.i64.wrap ((k1.toNat : Nat) : Int) = ((k1.toNat : Nat) : Int) := wrap_i64 (by have := k1.toNat_lt; omega)
                          have hw2 : IntKind.i64.wrap ((k2.toNat : Nat) : Int) = ((k2.toNat : Nat) : Int) := wrap_i64 (by have := k2.toNat_lt; omega)
                          have hg1 : (⟨l.toArray⟩ : ByteArray)[((bh : Nat) : Int).toNat]? = some k1 := str_at (by rw [Int.toNat_natCast]; exact hk1)
                          have hg2 : (⟨l.toArray⟩ : ByteArray)[((bh + 1 : Nat) : Int).toNat]? = some k2 := str_at (by rw [Int.toNat_natCast]; exact hk2)
                          have hmm := mm.toNat_lt
                          have hkk : IntKind.i64.wrap (((fs.length : Nat) : Int) + 1) = ((fs.length + 1 : Nat) : Int) := by rw [wrap_i64 (by omega)]; omega
                          generalize hfdef : (⟨fn, (k1.toNat : Nat), (k2.toNat : Nat)⟩ : Fl) = f at *
                          have hfv : f.vals.map CV.val = [.val (.string ⟨fn.toArray⟩), .val (.int .i64 (k1.toNat : Nat)), .val (.int .i64 (k2.toNat : Nat))] := by rw [← hfdef]; rfl
                          have hsnoc := flV_snoc fs f
                          have hnl : fs.length + 1 = (fs ++ [f]).length := by rw [List.length_append]; rfl
                          have hfl : ((flV fs).map CV.val).length = fs.length * 3 := by rw [List.length_map, flV_len]
                          have hnc : (flV fs).map CV.val ++ [.val (.string ⟨fn.toArray⟩), .val (.int .i64 (k1.toNat : Nat)), .val (.int .i64 (k2.toNat : Nat))] = (flV (fs ++ [f])).map .val := by rw [hsnoc, List.map_append, hfv]
                          (refine LWP.seq <| LWP.seq <| LWP.region (by kernel_rfl) <| kmv rfl <| kmv rfl <| klt rfl rfl (decide_eq_true (by omega)) <| RunK.nil <| LWP.condT rfl ?_; refine LWP.skip ?_; refine LWP.seq <| LWP.block <| LWP.seq <| LWP.region (by kernel_rfl) <| kmv rfl <| kmv rfl <| kca rfl rfl hq <| kmv rfl <| kex rfl rfl <| kex rfl rfl <| kas rfl <| kas rfl <| RunK.nil <| LWP.seq ?_; refine LWP.seq <| LWP.region (by kernel_rfl) <| kmv rfl <| klt rfl rfl (decide_eq_false (by omega)) <| kmv rfl <| gmv rfl rfl rfl <| K.add rfl rfl ha2 (.taken rfl rfl) ?_; refine gmv rfl rfl rfl <| K.lenStr rfl (.taken rfl rfl) ?_; refine K.gtr rfl rfl (decide_eq_false (by rw [hlen]; omega)) (.taken rfl rfl) ?_; refine kpf rfl rfl <| RunK.nil <| LWP.condF rfl ?_; refine LWP.skip ?_; refine LWP.seq <| LWP.draws mixed (by kernel_rfl) <| kfa rfl rfl ?_; refine kl1 rfl rfl rfl <| kmv rfl <| kmv rfl <| kmv rfl <| K.indexStr rfl rfl (by omega) hg1 .plain <| kcv rfl hw1 ?_; refine kmv rfl <| kmv rfl <| kad rfl rfl ha1 <| K.indexStr rfl rfl (by omega) hg2 .plain <| kcv rfl hw2 ?_; refine K.build rfl rfl (by exact rfl) (by exact nl3 rfl rfl rfl rfl) .plain ?_; refine K.buildSlc (zs := [.string ⟨#[]⟩, .int .i64 0, .int .i64 0]) (sz := 3) (e := 57) (cs' := [.val (.string ⟨fn.toArray⟩), .val (.int .i64 (k1.toNat : Nat)), .val (.int .i64 (k2.toNat : Nat))]) (by kernel_rfl) rfl rfl rfl rfl rfl rfl .plain <| K.appendSlc (by_ := 32) (e2 := 57) (l2 := [.val (.string ⟨fn.toArray⟩), .val (.int .i64 (k1.toNat : Nat)), .val (.int .i64 (k2.toNat : Nat))]) (nl := (fs ++ [f]).length) (nc := (flV (fs ++ [f])).map .val) rfl rfl hfl rfl rfl (Nat.le_refl _) rfl rfl (by kernel_rfl) (by kernel_rfl) (by omega) (by omega) rfl hnl hnc .plain <| kfa rfl rfl ?_; refine K.storeOne rfl rfl rfl rfl rfl (nl3 rfl rfl rfl rfl) .plain <| RunK.nil <| And.intro (by kernel_rfl) ?_; refine LWP.region (by kernel_rfl) <| kmv rfl <| kad rfl rfl ha2 <| kas rfl <| RunK.nil <| LWP.region (by kernel_rfl) <| kmv rfl <| kad rfl rfl hkk <| kas rfl <| RunK.nil ?_)
                          refine ⟨_, inSt l (bh + 2) cs.length mm.toNat (fs ++ [f]).length [(601, some ⟨57, (flV (fs ++ [f])).map .val, true⟩), cpX 7 (ci.toNat : Nat) nm (.slc 601 0 (fs ++ [f]).length 3), (600, some ⟨60, (rowsZ cs cells).map .val, true⟩), syB 4 ver (.slc 600 0 cs.length 3), syZ 2] (joinM X H), ?_, ?_, bh + 2, fs ++ [f], ?_, rfl, by omega, ?_, .inr ⟨by simp, rfl⟩⟩
                          · rw [List.length_append]; simp only [List.length_singleton]; omega
                          · rw [← hnl]
                            skip
                            exact Le.ofR [(601, 119)] (by exact ⟨rfl, rfl, rfl, rfl, rfl, rfl, rfl, rfl, trivial⟩) (by repeat' (first | exact trivial | refine And.intro ⟨_, rfl, ?_⟩ ?_ | refine And.intro ⟨_, rfl⟩ ?_ | rfl | exact Box.ren_bytes _ _ _ _ | exact Box.ren_vals _ _ _ _ | exact Box.ren_mid rfl)) (by exact rfl) (by exact rfl) (by repeat' (first | refine all_cons_true ?_ ?_ | rfl | exact bytes_inUse | exact vals_inUse | exact mid_inUse rfl)) (by exact rfl) (by exact rfl)
                          · rw [List.length_append]; simp only [List.length_singleton]; omega
                          · rw [← hnl]; exact hstep
                        · have hsh : (l.drop bh).length < 2 := by rw [List.length_drop]; omega
                          rw [ht2] at hT
                          (refine LWP.seq <| LWP.seq <| LWP.region (by kernel_rfl) <| kmv rfl <| kmv rfl <| klt rfl rfl (decide_eq_true (by omega)) <| RunK.nil <| LWP.condT rfl ?_; refine LWP.skip ?_; refine LWP.seq <| LWP.block <| LWP.seq <| LWP.region (by kernel_rfl) <| kmv rfl <| kmv rfl <| kca rfl rfl hq <| kmv rfl <| kex rfl rfl <| kex rfl rfl <| kas rfl <| kas rfl <| RunK.nil <| LWP.seq ?_; refine LWP.seq <| LWP.region (by kernel_rfl) <| kmv rfl <| klt rfl rfl (decide_eq_false (by omega)) <| kmv rfl <| gmv rfl rfl rfl <| K.add rfl rfl ha2 (.taken rfl rfl) ?_; refine gmv rfl rfl rfl <| K.lenStr rfl (.taken rfl rfl) ?_; refine K.gtr rfl rfl (decide_eq_true (by rw [hlen]; omega)) (.taken rfl rfl) ?_; refine kpf rfl rfl <| RunK.nil <| LWP.condT rfl ?_; refine LWP.seq <| LWP.region (by kernel_rfl) <| K.build rfl rfl (by exact rfl) (by exact nl2 rfl rfl rfl) .plain ?_; refine K.storeAll rfl rfl rfl rfl rfl rfl .plain ?_; refine kas rfl <| RunK.nil <| LWP.ret ?_)
                          obtain ⟨q1, q2⟩ := decR_none (show decS l = none by rw [hl]; exact decS_none (by have hx := getCs_fail (k := nb.toNat - (cs.length + 1)) hcs (by rw [drop_cons hci]; exact getC_noF hT0 (by have hy := getFs_fail (k := mm.toNat - (fs.length + 1)) hfs (getF_short hT hsh); rw [show fs.length + 1 + (mm.toNat - (fs.length + 1)) = mm.toNat by omega] at hy; exact hy)); rw [show cs.length + 1 + (nb.toNat - (cs.length + 1)) = nb.toNat by omega] at hx; exact hx))
                          rw [q1, q2]
                          refine Leads.le (σ' := ⟨[(2, Lp 2), (3, Lb false)], [syZ 2], joinM X H⟩) (Le.of (by exact ⟨rfl, rfl, trivial⟩) (by exact ⟨rfl, trivial⟩) (by exact rfl) (by exact rfl) (by repeat' (first | refine all_cons_true ?_ ?_ | rfl | exact bytes_inUse | exact vals_inUse | exact mid_inUse rfl))) ?_
                          refine Leads.le (Le.drop fun b o h => joinM_has hO h) (Leads.done ?_)
                          exact ⟨[], ⟨[_, _], ⟨⟨_, _, rfl, rfl, rfl, .inl ⟨AggT.h, rfl⟩⟩, rfl, trivial⟩, rfl⟩, (by repeat' (first | exact trivial | refine And.intro ⟨_, rfl, ?_⟩ ?_ | refine And.intro ⟨_, rfl⟩ ?_ | rfl | exact Box.ren_bytes _ _ _ _ | exact Box.ren_vals _ _ _ _ | exact Box.ren_mid rfl)), rfl, rfl⟩
                    · have e : fs.length = mm.toNat := by omega
                      rw [e] at hfs
                      have hC := getC_yes (i := ci) hT0 hfs
                      have hstep := getCs_step hcs (by rw [drop_cons hci]; exact hC)
                      have hrl : ((rowsZ cs cells).map CV.val).length = cs.length * 3 := by rw [List.length_map, rowsZ_len hcl]
                      have hii : IntKind.i64.wrap (((cs.length : Nat) : Int) + 1) = ((cs.length + 1 : Nat) : Int) := by rw [wrap_i64 (by omega)]; omega
                      have hnc3 : (rowsZ cs cells).map CV.val ++ [.val (.int .i64 (ci.toNat : Nat)), .val (.string ⟨nm.toArray⟩), .slc 601 0 fs.length 3] = (rowsZ cs cells ++ [Value.int .i64 (ci.toNat : Nat), Value.string ⟨nm.toArray⟩]).map .val ++ .slc 601 0 fs.length 3 :: ([] : List Value).map .val := by
                        simp
                      (refine LWP.seq <| LWP.seq <| LWP.region (by kernel_rfl) <| kmv rfl <| kmv rfl <| klt rfl rfl (decide_eq_false (by omega)) <| RunK.nil <| LWP.condF rfl ?_; refine LWP.exit <| LWP.region (by kernel_rfl) <| kfa rfl rfl ?_; refine kl1 rfl rfl rfl <| K.loadAll rfl rfl rfl .plain ?_; refine K.buildSlc (zs := [.int .i64 0, .string ⟨#[]⟩, .slice none 0 0]) (sz := 3) (e := 60) (cs' := [.val (.int .i64 (ci.toNat : Nat)), .val (.string ⟨nm.toArray⟩), .slc 601 0 fs.length 3]) (by kernel_rfl) rfl rfl rfl rfl rfl rfl .plain <| K.appendSlc (by_ := 48) (e2 := 60) (l2 := [.val (.int .i64 (ci.toNat : Nat)), .val (.string ⟨nm.toArray⟩), .slc 601 0 fs.length 3]) (nl := cs.length + 1) (nc := (rowsZ cs cells ++ [Value.int .i64 (ci.toNat : Nat), Value.string ⟨nm.toArray⟩]).map .val ++ .slc 601 0 fs.length 3 :: ([] : List Value).map .val) rfl rfl hrl rfl rfl (Nat.le_refl _) rfl rfl (by kernel_rfl) (by kernel_rfl) (by omega) (by omega) rfl rfl hnc3 .plain <| kfa rfl rfl ?_; refine K.storeOne rfl rfl rfl rfl rfl (nl2 rfl rfl rfl) .plain <| RunK.nil <| LWP.region (by kernel_rfl) <| kmv rfl <| kad rfl rfl hii <| kas rfl <| RunK.nil ?_)
                      have hcn : (cs ++ [(⟨(ci.toNat : Nat), nm, fs⟩ : Cp)]).length = cs.length + 1 := by rw [List.length_append]; rfl
                      refine Leads.le (σ' := ⟨[(0, Ls l), (2, Lp 2), (4, Lp 4), (5, Ln .i64 (at2 : Nat)), (6, Ln .i64 (cs.length + 1 : Nat))], [(600, some ⟨60, (rowsZ cs cells ++ [Value.int .i64 (ci.toNat : Nat), Value.string ⟨nm.toArray⟩]).map .val ++ .slc 601 0 fs.length 3 :: ([] : List Value).map .val, true⟩), (601, some ⟨57, (flV fs).map .val, true⟩), syB 4 ver (.slc 600 0 (cs.length + 1) 3), syZ 2], joinM X H⟩) ?_ ?_
                      · exact Le.ofR [(600, 127)] (by exact ⟨rfl, rfl, rfl, rfl, rfl, trivial⟩) (by repeat' (first | exact trivial | refine And.intro ⟨_, rfl, ?_⟩ ?_ | refine And.intro ⟨_, rfl⟩ ?_ | rfl | exact Box.ren_bytes _ _ _ _ | exact Box.ren_vals _ _ _ _ | exact Box.ren_mid rfl)) (by exact rfl) (by exact rfl) (by repeat' (first | refine all_cons_true ?_ ?_ | rfl | exact bytes_inUse | exact vals_inUse | exact mid_inUse rfl)) (by exact rfl) (by exact rfl)
                      refine Leads.closeCell hO (flV_len _) rfl vals_inUse rfl rfl rfl rfl fun b o v g1 _ hO3 hv => Leads.done ⟨nb.toNat - (cs.length + 1), by omega, cs.length + 1, at2, cs ++ [⟨(ci.toNat : Nat), nm, fs⟩], cells ++ [v], withBlock H b o, by omega, rfl, by omega, hstep, hcn, hO3, ?_, .inr ⟨by omega, ?_⟩⟩
                      · rw [List.map_append, List.map_cons, List.map_nil]
                        exact G.push g1 hv (fun e => hfe (by have := flV_len fs; rw [e, List.length_nil] at this; exact List.eq_nil_of_length_eq_zero (by omega)))
                      · rw [hcn, rowsZ_add hcl]
                        simp
              · rw [ht, show l.drop nx = [] from List.drop_eq_nil_of_le (by omega)] at hT0
                (refine LWP.seq <| LWP.seq <| LWP.region (by kernel_rfl) <| kmv rfl <| kmv rfl <| K.indexStr rfl rfl (by omega) hg5 .plain <| kcv rfl hwn ?_; refine klt rfl rfl (decide_eq_true (by omega)) <| RunK.nil <| LWP.condT rfl ?_; refine LWP.skip ?_; refine LWP.seq <| LWP.block <| LWP.seq <| LWP.seq <| LWP.region (by kernel_rfl) <| kmv rfl <| kmv rfl <| kln rfl <| K.geq rfl rfl (decide_eq_false (by rw [hlen]; omega)) .plain <| RunK.nil <| LWP.condF rfl ?_; refine LWP.skip ?_; refine LWP.seq <| LWP.region (by kernel_rfl) <| kmv rfl <| kmv rfl <| K.indexStr rfl rfl (by omega) hgi .plain <| kcv rfl hwi ?_; refine K.build rfl rfl (by exact rfl) (by exact nl3 rfl rfl rfl rfl) .plain ?_; refine K.alloc rfl .plain ?_; refine K.storeAll rfl rfl rfl rfl rfl rfl .plain ?_; refine RunK.nil <| LWP.seq <| LWP.region (by kernel_rfl) <| kmv rfl <| kmv rfl <| kad rfl rfl ha1 <| kca rfl rfl hq <| kmv rfl <| kex rfl rfl <| kex rfl rfl <| kas rfl <| kas rfl <| RunK.nil <| LWP.seq ?_; refine LWP.seq <| LWP.region (by kernel_rfl) <| kmv rfl <| klt rfl rfl (decide_eq_false (by omega)) <| kmv rfl <| gmv rfl rfl rfl <| gmv rfl rfl rfl <| K.lenStr rfl (.taken rfl rfl) ?_; refine K.geq rfl rfl (decide_eq_true (by rw [hlen]; omega)) (.taken rfl rfl) ?_; refine kpf rfl rfl <| RunK.nil <| LWP.condT rfl ?_; refine LWP.seq <| LWP.region (by kernel_rfl) <| K.build rfl rfl (by exact rfl) (by exact nl2 rfl rfl rfl) .plain ?_; refine K.storeAll rfl rfl rfl rfl rfl rfl .plain ?_; refine kas rfl <| RunK.nil <| LWP.ret ?_)
                obtain ⟨q1, q2⟩ := decR_none (show decS l = none by rw [hl]; exact decS_none (by have hx := getCs_fail (k := nb.toNat - (cs.length + 1)) hcs (by rw [drop_cons hci]; exact getC_noN hT0); rw [show cs.length + 1 + (nb.toNat - (cs.length + 1)) = nb.toNat by omega] at hx; exact hx))
                rw [q1, q2]
                refine Leads.le (σ' := ⟨[(2, Lp 2), (3, Lb false)], [syZ 2], joinM X H⟩) (Le.of (by exact ⟨rfl, rfl, trivial⟩) (by exact ⟨rfl, trivial⟩) (by exact rfl) (by exact rfl) (by repeat' (first | refine all_cons_true ?_ ?_ | rfl | exact bytes_inUse | exact vals_inUse | exact mid_inUse rfl))) ?_
                refine Leads.le (Le.drop fun b o h => joinM_has hO h) (Leads.done ?_)
                exact ⟨[], ⟨[_, _], ⟨⟨_, _, rfl, rfl, rfl, .inl ⟨AggT.h, rfl⟩⟩, rfl, trivial⟩, rfl⟩, (by repeat' (first | exact trivial | refine And.intro ⟨_, rfl, ?_⟩ ?_ | refine And.intro ⟨_, rfl⟩ ?_ | rfl | exact Box.ren_bytes _ _ _ _ | exact Box.ren_vals _ _ _ _ | exact Box.ren_mid rfl)), rfl, rfl⟩
          · (refine LWP.seq <| LWP.seq <| LWP.region (by kernel_rfl) <| kmv rfl <| kmv rfl <| K.indexStr rfl rfl (by omega) hg5 .plain <| kcv rfl hwn ?_; refine klt rfl rfl (decide_eq_true (by omega)) <| RunK.nil <| LWP.condT rfl ?_; refine LWP.skip ?_; refine LWP.seq <| LWP.block <| LWP.seq <| LWP.seq <| LWP.region (by kernel_rfl) <| kmv rfl <| kmv rfl <| kln rfl <| K.geq rfl rfl (decide_eq_true (by rw [hlen]; omega)) .plain <| RunK.nil <| LWP.condT rfl ?_; refine LWP.seq <| LWP.region (by kernel_rfl) <| K.build rfl rfl (by exact rfl) (by exact nl2 rfl rfl rfl) .plain ?_; refine K.storeAll rfl rfl rfl rfl rfl rfl .plain ?_; refine kas rfl <| RunK.nil <| LWP.ret ?_)
            obtain ⟨q1, q2⟩ := decR_none (show decS l = none by rw [hl]; exact decS_none (by have hx := getCs_fail (k := nb.toNat - (cs.length + 1)) hcs (by rw [show l.drop at_ = [] from List.drop_eq_nil_of_le (by omega)]; exact getC_nil); rw [show cs.length + 1 + (nb.toNat - (cs.length + 1)) = nb.toNat by omega] at hx; exact hx))
            rw [q1, q2]
            refine Leads.le (σ' := ⟨[(2, Lp 2), (3, Lb false)], [syZ 2], joinM X H⟩) (Le.of (by exact ⟨rfl, rfl, trivial⟩) (by exact ⟨rfl, trivial⟩) (by exact rfl) (by exact rfl) (by repeat' (first | refine all_cons_true ?_ ?_ | rfl | exact bytes_inUse | exact vals_inUse | exact mid_inUse rfl))) ?_
            refine Leads.le (Le.drop fun b o h => joinM_has hO h) (Leads.done ?_)
            exact ⟨[], ⟨[_, _], ⟨⟨_, _, rfl, rfl, rfl, .inl ⟨AggT.h, rfl⟩⟩, rfl, trivial⟩, rfl⟩, (by repeat' (first | exact trivial | refine And.intro ⟨_, rfl, ?_⟩ ?_ | refine And.intro ⟨_, rfl⟩ ?_ | rfl | exact Box.ren_bytes _ _ _ _ | exact Box.ren_vals _ _ _ _ | exact Box.ren_mid rfl)), rfl, rfl⟩
        · have e : cs.length = nb.toNat := by omega
          rw [e] at hcs
          obtain ⟨_, _, hok⟩ := getCs_back hcs
          have hfb : ∀ c ∈ cs, c.fs.length < 4611686018427387904 := fun c hc => by have := (hok c hc).2.2.1; omega
          have hib : InB cs := fun c hc => by
            obtain ⟨h1, _, _, h4⟩ := hok c hc
            exact ⟨by omega, fun f hf => by obtain ⟨_, h5, h6⟩ := h4 f hf; omega⟩
          by_cases hend : at_ = l.length
          · have hdrop : l.drop at_ = [] := List.drop_eq_nil_of_le (by omega)
            rw [hdrop] at hcs
            have hS := decS_some (v0 := v0) (v1 := v1) (v2 := v2) (v3 := v3) hcs
            rw [hver, ← hl] at hS
            have hne1 : (((at_ : Nat) : Int) != ((⟨l.toArray⟩ : ByteArray).size : Int)) = false := by rw [hlen, hend]; simp
            have htw := twigs_in (X := X) G hib
            by_cases hz : chkE ⟨ver, cs⟩ = 0
            · rw [if_pos hz] at hS
              have hck := ref_check_lent (ver := ver) (e := 0) (joinM X H) hcl (fun c hc => (hib c hc).1) htw (by omega) hfb (el := 60) (row := true) (k := 600) (S := fun k => Go.Lg.look k [(600, some ⟨60, (rowsZ cs cells).map .val, true⟩), syB 4 ver (.slc 600 0 cs.length 3), syZ 2]) rfl hz
              (refine LWP.seq <| LWP.seq <| LWP.region (by kernel_rfl) <| kmv rfl <| kmv rfl <| K.indexStr rfl rfl (by omega) hg5 .plain <| kcv rfl hwn ?_; refine klt rfl rfl (decide_eq_false (by omega)) <| RunK.nil <| LWP.condF rfl ?_; refine LWP.exit <| LWP.seq <| LWP.seq <| LWP.region (by kernel_rfl) <| kmv rfl <| kmv rfl <| kln rfl <| kne rfl rfl hne1 <| kmv rfl <| K.loadAll rfl rfl rfl (.taken rfl rfl) ?_; refine K.callL [600] rfl rfl rfl hck (.taken rfl rfl) ?_; refine K.neq rfl rfl (r := false) (by decide) (.taken rfl rfl) ?_; refine kpf rfl rfl <| RunK.nil <| LWP.condF rfl ?_; refine LWP.skip ?_; refine LWP.seq <| LWP.region (by kernel_rfl) <| K.loadAll rfl rfl rfl .plain ?_; refine K.storeAll rfl rfl rfl rfl rfl rfl .plain ?_; refine kas rfl <| RunK.nil <| LWP.ret ?_)
              obtain ⟨q1, q2⟩ := decR_some hS (by show cs.length ≠ 0; omega)
              rw [q1, q2]
              refine Leads.le (σ' := ⟨[(2, Lp 2), (3, Lb true)], [(600, some ⟨60, (rowsZ cs cells).map .val, true⟩), syB 2 ver (.slc 600 0 cs.length 3)], joinM X H⟩) (Le.of (by exact ⟨rfl, rfl, trivial⟩) (by exact ⟨rfl, rfl, trivial⟩) (by exact rfl) (by exact rfl) (by repeat' (first | refine all_cons_true ?_ ?_ | rfl | exact bytes_inUse | exact vals_inUse | exact mid_inUse rfl))) ?_
              refine Leads.spare fun sp => sc_shut hO G hib (Leads.done ?_)
              exact ⟨[(1000001, 600)], ⟨[_, _], ⟨⟨_, _, rfl, rfl, rfl, .inl ⟨AggT.h, rfl⟩⟩, rfl, trivial⟩, rfl⟩, (by repeat' (first | exact trivial | refine And.intro ⟨_, rfl, ?_⟩ ?_ | refine And.intro ⟨_, rfl⟩ ?_ | rfl | exact Box.ren_bytes _ _ _ _ | exact Box.ren_vals _ _ _ _ | exact Box.ren_mid rfl)), rfl, rfl⟩
            · rw [if_neg hz] at hS
              have hne2 : (chkE ⟨ver, cs⟩ != 0) = true := by rw [bne_iff_ne]; exact hz
              have hck := ref_check_lent (ver := ver) (joinM X H) hcl (fun c hc => (hib c hc).1) htw (by omega) hfb (el := 60) (row := true) (k := 600) (S := fun k => Go.Lg.look k [(600, some ⟨60, (rowsZ cs cells).map .val, true⟩), syB 4 ver (.slc 600 0 cs.length 3), syZ 2]) rfl rfl
              generalize chkE ⟨ver, cs⟩ = ce at *
              (refine LWP.seq <| LWP.seq <| LWP.region (by kernel_rfl) <| kmv rfl <| kmv rfl <| K.indexStr rfl rfl (by omega) hg5 .plain <| kcv rfl hwn ?_; refine klt rfl rfl (decide_eq_false (by omega)) <| RunK.nil <| LWP.condF rfl ?_; refine LWP.exit <| LWP.seq <| LWP.seq <| LWP.region (by kernel_rfl) <| kmv rfl <| kmv rfl <| kln rfl <| kne rfl rfl hne1 <| kmv rfl <| K.loadAll rfl rfl rfl (.taken rfl rfl) ?_; refine K.callL [600] rfl rfl rfl hck (.taken rfl rfl) ?_; refine K.neq rfl rfl hne2 (.taken rfl rfl) ?_; refine kpf rfl rfl <| RunK.nil <| LWP.condT rfl ?_; refine LWP.seq <| LWP.region (by kernel_rfl) <| K.build rfl rfl (by exact rfl) (by exact nl2 rfl rfl rfl) .plain ?_; refine K.storeAll rfl rfl rfl rfl rfl rfl .plain ?_; refine kas rfl <| RunK.nil <| LWP.ret ?_)
              obtain ⟨q1, q2⟩ := decR_none (show decS l = none by rw [hl]; exact (by rw [← hl]; exact hS))
              rw [q1, q2]
              refine Leads.le (σ' := ⟨[(2, Lp 2), (3, Lb false)], [syZ 2], joinM X H⟩) (Le.of (by exact ⟨rfl, rfl, trivial⟩) (by exact ⟨rfl, trivial⟩) (by exact rfl) (by exact rfl) (by repeat' (first | refine all_cons_true ?_ ?_ | rfl | exact bytes_inUse | exact vals_inUse | exact mid_inUse rfl))) ?_
              refine Leads.le (Le.drop fun b o h => joinM_has hO h) (Leads.done ?_)
              exact ⟨[], ⟨[_, _], ⟨⟨_, _, rfl, rfl, rfl, .inl ⟨AggT.h, rfl⟩⟩, rfl, trivial⟩, rfl⟩, (by repeat' (first | exact trivial | refine And.intro ⟨_, rfl, ?_⟩ ?_ | refine And.intro ⟨_, rfl⟩ ?_ | rfl | exact Box.ren_bytes _ _ _ _ | exact Box.ren_vals _ _ _ _ | exact Box.ren_mid rfl)), rfl, rfl⟩
          · have hne1 : (((at_ : Nat) : Int) != ((⟨l.toArray⟩ : ByteArray).size : Int)) = true := by rw [bne_iff_ne, hlen]; omega
            (refine LWP.seq <| LWP.seq <| LWP.region (by kernel_rfl) <| kmv rfl <| kmv rfl <| K.indexStr rfl rfl (by omega) hg5 .plain <| kcv rfl hwn ?_; refine klt rfl rfl (decide_eq_false (by omega)) <| RunK.nil <| LWP.condF rfl ?_; refine LWP.exit <| LWP.seq <| LWP.seq <| LWP.region (by kernel_rfl) <| kmv rfl <| kmv rfl <| kln rfl <| kne rfl rfl hne1 <| kmv rfl <| RunK.passed rfl rfl rfl <| RunK.passed rfl rfl rfl <| RunK.passed rfl rfl rfl <| kpt rfl rfl <| RunK.nil ?_; refine LWP.condT rfl ?_; refine LWP.seq <| LWP.region (by kernel_rfl) <| K.build rfl rfl (by exact rfl) (by exact nl2 rfl rfl rfl) .plain ?_; refine K.storeAll rfl rfl rfl rfl rfl rfl .plain ?_; refine kas rfl <| RunK.nil <| LWP.ret ?_)
            obtain ⟨q1, q2⟩ := decR_none (show decS l = none by rw [hl]; exact decS_rest hcs (fun h => hend (by have := congrArg List.length h; rw [List.length_drop, List.length_nil] at this; omega)))
            rw [q1, q2]
            refine Leads.le (σ' := ⟨[(2, Lp 2), (3, Lb false)], [syZ 2], joinM X H⟩) (Le.of (by exact ⟨rfl, rfl, trivial⟩) (by exact ⟨rfl, trivial⟩) (by exact rfl) (by exact rfl) (by repeat' (first | refine all_cons_true ?_ ?_ | rfl | exact bytes_inUse | exact vals_inUse | exact mid_inUse rfl))) ?_
            refine Leads.le (Le.drop fun b o h => joinM_has hO h) (Leads.done ?_)
            exact ⟨[], ⟨[_, _], ⟨⟨_, _, rfl, rfl, rfl, .inl ⟨AggT.h, rfl⟩⟩, rfl, trivial⟩, rfl⟩, (by repeat' (first | exact trivial | refine And.intro ⟨_, rfl, ?_⟩ ?_ | refine And.intro ⟨_, rfl⟩ ?_ | rfl | exact Box.ren_bytes _ _ _ _ | exact Box.ren_vals _ _ _ _ | exact Box.ren_mid rfl)), rfl, rfl⟩
  · have hne0 : (((m0.toNat : Nat) : Int) != 83) = true := by
      rw [bne_iff_ne]
      intro e
      exact hm (UInt8.toNat_inj.1 (by have e2 : m0.toNat = 83 := by omega
                                      exact e2))
    (refine LWP.seq <| LWP.region (by kernel_rfl) <| K.alloc rfl .plain ?_; refine kas rfl <| RunK.nil <| LWP.seq <| LWP.region (by kernel_rfl) <| K.build rfl rfl (by exact rfl) (by exact nl2 rfl rfl rfl) .plain ?_; refine K.alloc rfl .plain ?_; refine K.storeAll rfl rfl rfl rfl rfl rfl .plain ?_; refine RunK.nil <| LWP.seq <| LWP.seq <| LWP.region (by kernel_rfl) <| kmv rfl <| kln rfl <| klt rfl rfl (decide_eq_false (by rw [hlen]; omega)) <| kmv rfl <| gmv rfl rfl rfl <| K.indexStr rfl rfl (by omega) hg0 (.taken rfl rfl) ?_; refine K.neq rfl rfl hne0 (.taken rfl rfl) ?_; refine kpf rfl rfl <| RunK.nil <| LWP.condT rfl ?_; refine LWP.seq <| LWP.region (by kernel_rfl) <| K.loadAll rfl rfl rfl .plain ?_; refine K.storeAll rfl rfl rfl rfl rfl rfl .plain ?_; refine kas rfl <| RunK.nil <| LWP.ret ?_)
    obtain ⟨q1, q2⟩ := decR_none (show decS l = none by rw [hl]; exact decS_head hm)
    rw [q1, q2]
    refine Leads.done ?_
    exact ⟨[], ⟨[_, _], ⟨⟨_, _, rfl, rfl, rfl, .inl ⟨AggT.h, rfl⟩⟩, rfl, trivial⟩, rfl⟩, (by repeat' (first | exact trivial | refine And.intro ⟨_, rfl, ?_⟩ ?_ | refine And.intro ⟨_, rfl⟩ ?_ | rfl | exact Box.ren_bytes _ _ _ _ | exact Box.ren_vals _ _ _ _ | exact Box.ren_mid rfl)), rfl, rfl⟩
end Go.Proofs.YtnomcmklhbjfjaaGreatDoor
end
section
namespace Go.Lg.Fld
open Go Go.Lg
def SmallC8 (cs : List Cp) : Prop := cs.length ≤ 30 ∧ ∀ c ∈ cs, c.fs.length ≤ 12 ∧ c.nm.length ≤ 300 ∧ ∀ f ∈ c.fs, f.nm.length ≤ 300
def bigF8 (fs : List Fl) : Bool := fs.any fun f => decide (300 < f.nm.length)
def bigC8 (c : Cp) : Bool := (decide (12 < c.fs.length) || decide (300 < c.nm.length)) || bigF8 c.fs
def greatB8 (cs : List Cp) : Bool := decide (30 < cs.length) || cs.any bigC8
theorem greatB8_small {cs : List Cp} (h : greatB8 cs = false) : SmallC8 cs := by
  unfold greatB8 at h
  rw [Bool.or_eq_false_iff] at h
  refine ⟨by have := of_decide_eq_false h.1; omega, fun c hc => ?_⟩
  have h2 := List.any_eq_false.1 h.2 c hc
  have h3 : bigC8 c = false := by simpa using h2
  unfold bigC8 at h3
  rw [Bool.or_eq_false_iff, Bool.or_eq_false_iff] at h3
  refine ⟨by have := of_decide_eq_false h3.1.1; omega, by have := of_decide_eq_false h3.1.2; omega, fun f hf => ?_⟩
  have h4 := List.any_eq_false.1 h3.2 f hf
  simp only [decide_eq_true_eq] at h4
  omega
theorem SmallC8.names {cs : List Cp} (h : SmallC8 cs) : NamesC cs := fun c hc => by
  obtain ⟨h1, h2, h3⟩ := h.2 c hc
  exact ⟨by omega, by omega, fun f hf => by have := h3 f hf; omega⟩
def encTx (s : Sc) : List UInt8 := if chkE s = 0 then encS s else []
end Go.Lg.Fld
namespace Go.Proofs.YtnomcmklhbjfjaaGreatDoor
open Go Go.Lg Go.Lg.Fld
set_option maxRecDepth 100000
variable (X : Nat → Option Obj)
theorem pCheck8 (s : Sc) (ad : Option Addr) (cap : Nat) (hin : CompsIn X ad s.cs) (hS : SmallC8 s.cs) (e : Int) (he : chkE s = e) : PSpec Tryz.prog X 20 [Sx s.ver ad s.cs.length cap] (Ln .i64 e) := pCheckBig X s ad cap hin (by have := hS.1; omega) hS.names e he
theorem pSame8 (a b : Sc) (ad ad2 : Option Addr) (cap cap2 : Nat) (ha : CompsIn X ad a.cs) (hb : CompsIn X ad2 b.cs) (hS : SmallC8 a.cs) (_ : SmallC8 b.cs) (r : Bool) (hr : decide (a = b) = r) :
    PSpec Tryz.prog X 21 [Sx a.ver ad a.cs.length cap, Sx b.ver ad2 b.cs.length cap2] (Lb r) := pSameBig X a b ad ad2 cap cap2 ha hb (by have := hS.1; omega) (fun c hc => by have := (hS.2 c hc).1; omega) r hr
theorem same_two {S : Nat → Option (Option Box)} {ver : Int} {k k2 : Nat} {cs : List Cp} {e e2 : TypeId} {cc cc2 : List CV} (hb : cs.length < 4611686018427387904) (hfs : ∀ c ∈ cs, c.fs.length < 4611686018427387904) (hk : S k = some (some ⟨e, cc, .res (scR cs)⟩)) (hk2 : S k2 = some (some ⟨e2, cc2, .res (scR cs)⟩)) :
    ∀ (Y : Nat → Option Obj) (us : List Value), (∀ b o, X b = some o → Y b = some o) → LentLs S Y [.sv (.agg [.val (.int .i64 ver), .slc k 0 cs.length 3]), .sv (.agg [.val (.int .i64 ver), .slc k2 0 cs.length 3])] us → PSpec Tryz.prog Y 14 (us.map toLV) (Lb true) := by
  intro Y us _ hL
  obtain ⟨u2, us2, rfl, ⟨bs, rfl, b1, bs1, rfl, h3, b2, bs2, rfl, ⟨b, blk, cap2, m, hk', rfl, hc, hfit, hB⟩, rfl⟩, u1, us1, rfl, ⟨av, rfl, a1, av1, rfl, h1, a2, av2, rfl, ⟨b', blk', cap2', m', hk2', rfl, hc', hfit', hB'⟩, rfl⟩, rfl⟩ := hL
  have h1 : a1 = .int .i64 ver := h1
  have h3 : b1 = .int .i64 ver := h3
  subst h1 h3
  rw [hk] at hk'
  rw [hk2] at hk2'
  simp only [Option.some.injEq] at hk' hk2'
  subst hk' hk2'
  obtain ⟨H, hR, hHY⟩ := hB
  obtain ⟨H', hR', hHY'⟩ := hB'
  exact sSame_spec Y ⟨ver, cs⟩ ⟨ver, cs⟩ (some ⟨blk, 0, none⟩) (some ⟨blk', 0, none⟩) cap2 cap2' (scR_in hR hHY) (scR_in hR' hHY') hb hfs true (decide_eq_true rfl)
end Go.Proofs.YtnomcmklhbjfjaaGreatDoor
end
section
namespace Go.Lg.Fld
open Go Go.Lg
def zeF (k : Nat) : List Value := (List.replicate k [Value.string ⟨#[]⟩, Value.int .i64 0, Value.int .i64 0]).flatten
theorem zeF_succ (k : Nat) : zeF (k + 1) = [Value.string ⟨#[]⟩, Value.int .i64 0, Value.int .i64 0] ++ zeF k := by unfold zeF; rw [List.replicate_succ, List.flatten_cons]
theorem zeF_len (k : Nat) : (zeF k).length = k * 3 := by
  induction k with
  | zero => rfl
  | succ k ih => rw [zeF_succ, List.length_append, ih]; simp; omega
theorem okF_small {f : Fl} (h : okF f) : (-9223372036854775808 ≤ f.kind ∧ f.kind < 9223372036854775808) ∧ (-9223372036854775808 ≤ f.count ∧ f.count < 9223372036854775808) := by
  obtain ⟨_, h2, h3⟩ := h
  omega
theorem okC_inB {cs : List Cp} (h : ∀ c ∈ cs, okC c) : InB cs := fun c hc => by
  obtain ⟨h1, _, _, h4⟩ := h c hc
  exact ⟨by omega, fun f hf => okF_small (h4 f hf)⟩
theorem okC_names {cs : List Cp} (h : ∀ c ∈ cs, okC c) : NamesC cs := fun c hc => by
  obtain ⟨_, h2, h3, h4⟩ := h c hc
  unfold okT at h2
  exact ⟨by omega, by omega, fun f hf => by have := (h4 f hf).1; unfold okT at this; omega⟩
end Go.Lg.Fld
namespace Go.Proofs.YtnomcmklhbjfjaaGreatDoor
open Go Go.Lg Go.Lg.Fld
set_option maxRecDepth 100000
variable (X : Nat → Option Obj)
abbrev fmB (k : Nat) (fs : List Fl) : Nat × Option Box := (k, some ⟨57, (flV fs).map .val, false⟩)
abbrev tcSt (l : List UInt8) (b : Bool) (id : Int) (nm : List UInt8) (m i : Nat) (cells : List Value) (X : Nat → Option Obj) : St :=
  ⟨[(0, Lp 1000000), (2, Lp 2), (3, Lp 3), (16, Ln .i64 (m : Nat)), (17, Ln .i64 (i : Nat))], [(1000000, some ⟨108, [vs l, .val (.bool b)], false⟩), (3, some ⟨60, [.val (.int .i64 id), .val (.string ⟨nm.toArray⟩), .slc 12 0 m 3], false⟩), (12, some ⟨57, cells.map .val, false⟩), (2, some ⟨60, [.val (.int .i64 0), .val (.string ⟨#[]⟩), .val (.slice none 0 0)], false⟩)], X⟩
set_option maxHeartbeats 3200000 in
theorem takeComp_t (l : List UInt8) (b : Bool) (hl : l.length < 4611686018427387904) : MSpec Tryz.prog X 32 [Lp 1000000] (rd 1000000 l b) (.sv (SCs (tC (l, b)).1 1000001)) (rd 1000000 (tC (l, b)).2.1 (tC (l, b)).2.2 ++ [fmB 1000001 (tC (l, b)).1.fs]) := by
  have h1 := takeSmall_t X l b hl
  have g1 := (tSm_less (l, b)).1
  have k1 := (tSm (l, b)).1.toNat_lt
  unfold tC
  rcases hy1 : tSm (l, b) with ⟨id, l1, b1⟩
  rw [hy1] at h1 g1 k1
  simp only at h1 g1 k1 ⊢
  have h2 := Name_t X l1 b1 (by omega)
  have g2 := (tNm_less (l1, b1)).1
  rcases hy2 : tNm (l1, b1) with ⟨nm, l2, b2⟩
  rw [hy2] at h2 g2
  simp only at h2 g2 ⊢
  have h3 := takeSmall_t X l2 b2 (by omega)
  have g3 := (tSm_less (l2, b2)).1
  have k3 := (tSm (l2, b2)).1.toNat_lt
  rcases hy3 : tSm (l2, b2) with ⟨m, l3, b3⟩
  rw [hy3] at h3 g3 k3
  simp only at h3 g3 k3 ⊢
  generalize m.toNat = m at *
  have hlen := tFs_len (l3, b3) m
  refine MSpec.intro Tryz.func32 rfl (by kernel_rfl) rfl (by exact (by repeat' (first | refine all_cons_true ?_ ?_ | rfl | exact bytes_inUse | exact vals_inUse | exact mid_inUse rfl))) (by exact (by repeat' (first | refine all_cons_true ?_ ?_ | rfl | exact bytes_inUse | exact vals_inUse | exact mid_inUse rfl))) rfl rfl ?_
  intro C
  have hmk : slcBuild Tryz.prog 58 m = some (zeF m, 3, 57) := slcBuild_many (z := #[.string ⟨#[]⟩, .int .i64 0, .int .i64 0]) (by kernel_rfl) (by kernel_rfl) rfl (by omega)
  (refine LWP.seq <| LWP.region (by kernel_rfl) <| K.alloc rfl .plain ?_; refine RunK.nil <| LWP.seq <| LWP.region (by kernel_rfl) <| kmv rfl <| K.callM [] (rd 1000000 l1 b1) (h1) rfl rfl (by exact (And.intro ⟨_, rfl, rfl⟩ trivial)) (by exact (all_cons_true (all_cons_true rfl (all_cons_true rfl rfl)) rfl)) rfl rfl rfl rfl (by exact (.box rfl rfl .nil)) .plain <| kmv rfl <| K.callM [] (rd 1000000 l2 b2) (h2) rfl rfl (by exact (And.intro ⟨_, rfl, rfl⟩ trivial)) (by exact (all_cons_true (all_cons_true rfl (all_cons_true rfl rfl)) rfl)) rfl rfl rfl rfl (by exact (.box rfl rfl .nil)) .plain <| K.build rfl rfl (by exact rfl) (by exact nl3 rfl rfl rfl rfl) .plain ?_; refine K.alloc rfl .plain ?_; refine K.storeAll rfl rfl rfl rfl rfl rfl .plain ?_; refine RunK.nil <| LWP.seq <| LWP.region (by kernel_rfl) <| kmv rfl <| K.callM [] (rd 1000000 l3 b3) (h3) rfl rfl (by exact (And.intro ⟨_, rfl, rfl⟩ trivial)) (by exact (all_cons_true (all_cons_true rfl (all_cons_true rfl rfl)) rfl)) rfl rfl rfl rfl (by exact (.box rfl rfl .nil)) .plain <| K.makeSlc (m := m) (bytes := 32) rfl rfl hmk (by kernel_rfl) (by omega) rfl rfl .plain <| kfa rfl rfl ?_; refine K.storeOne rfl rfl rfl rfl rfl (nl3 rfl rfl rfl rfl) .plain <| RunK.nil <| LWP.seq <| LWP.seq <| LWP.region (by kernel_rfl) <| kfa rfl rfl ?_; refine kl1 rfl rfl rfl <| K.lenSlc rfl SliceT.h rfl .plain ?_; refine kmv rfl <| RunK.nil <| LWP.block ?_)
  refine LWP.loop (fun k σ => ∃ (i : Nat) (fs : List Fl) (l' : List UInt8) (b' : Bool), i ≤ m ∧ k = m - i ∧ tFs (l3, b3) i = (fs, l', b') ∧ σ = tcSt l' b' (id.toNat : Nat) nm m i (flV fs ++ zeF (m - i)) X) m
    ⟨_, Le.of (by exact ⟨rfl, rfl, rfl, rfl, rfl, trivial⟩) (by exact ⟨rfl, rfl, rfl, rfl, trivial⟩) (by exact rfl) (by exact rfl) (by repeat' (first | refine all_cons_true ?_ ?_ | rfl | exact bytes_inUse | exact vals_inUse | exact mid_inUse rfl)), 0, [], l3, b3, Nat.zero_le _, by omega, rfl, rfl⟩ ?_
  rintro k σ ⟨i, fs, l', b', hi, rfl, hT, rfl⟩
  have hfl : fs.length = i := by have := tFs_len (l3, b3) i; rw [hT] at this; exact this
  have hl' : l'.length ≤ l3.length := by have := (tFs_less (l3, b3) i).1; rw [hT] at this; exact this
  by_cases hlt : i < m
  · have hF := takeField_t X l' b' (by omega)
    rcases hy : tF (l', b') with ⟨f, l4, b4⟩
    rw [hy] at hF
    simp only at hF
    have hT2 : tFs (l3, b3) (i + 1) = (fs ++ [f], l4, b4) := by simp only [tFs, hT, hy]
    have hix : 0 + Int.toNat (i : Int) * 3 = i * 3 := by rw [Int.toNat_natCast]; omega
    have hpl : (flV fs).length = i * 3 := by rw [flV_len, hfl]
    have hroom : i * 3 + 3 ≤ ((flV fs ++ zeF (m - i)).map CV.val).length := by rw [List.length_map, List.length_append, hpl, zeF_len]; omega
    have hspl : splice ((flV fs ++ zeF (m - i)).map CV.val) (i * 3) (f.vals.map CV.val) = (flV (fs ++ [f]) ++ zeF (m - (i + 1))).map CV.val := by
      rw [flV_snoc, show m - i = (m - (i + 1)) + 1 by omega, zeF_succ]
      unfold splice
      simp only [List.map_append, List.append_assoc]
      have hml : ((flV fs).map CV.val).length = i * 3 := by rw [List.length_map, hpl]
      generalize (flV fs).map CV.val = R at *
      rw [← hml, List.take_left, List.drop_length_add_append]
      simp [Fl.vals]
    have hadd : IntKind.i64.wrap (((i : Nat) : Int) + 1) = ((i + 1 : Nat) : Int) := by rw [wrap_i64 (by omega)]; omega
    (refine LWP.seq <| LWP.region (by kernel_rfl) <| klt rfl rfl (decide_eq_true (by omega)) <| RunK.nil <| LWP.seq <| LWP.condT rfl ?_; refine LWP.skip ?_; refine LWP.seq <| LWP.block <| LWP.seq <| LWP.region (by kernel_rfl) <| kmv rfl <| kas rfl <| RunK.nil <| LWP.draws mixed (by kernel_rfl) <| kfa rfl rfl ?_; refine kl1 rfl rfl rfl <| kmv rfl <| kmv rfl <| K.callM [] (rd 1000000 l4 b4) (hF) rfl rfl (by exact (And.intro ⟨_, rfl, rfl⟩ trivial)) (by exact (all_cons_true (all_cons_true rfl (all_cons_true rfl rfl)) rfl)) rfl rfl rfl rfl (by exact (.box rfl rfl .nil)) .plain <| K.indexSlc rfl rfl (by omega) hix .plain ?_; refine K.store rfl rfl rfl rfl (by kernel_rfl) hroom hspl .plain <| RunK.nil <| And.intro (by kernel_rfl) ?_; refine LWP.region (by kernel_rfl) <| kad rfl rfl hadd <| kmv rfl <| RunK.nil ?_)
    exact ⟨_, _, by omega, Le.of (by exact ⟨rfl, rfl, rfl, rfl, rfl, trivial⟩) (by exact ⟨rfl, rfl, rfl, rfl, trivial⟩) (by exact rfl) (by exact rfl) (by repeat' (first | refine all_cons_true ?_ ?_ | rfl | exact bytes_inUse | exact vals_inUse | exact mid_inUse rfl)), i + 1, fs ++ [f], l4, b4, by omega, rfl, hT2, rfl⟩
  · have e : i = m := by omega
    subst e
    rw [hT]
    simp only
    subst hfl
    have hz : zeF (fs.length - fs.length) = [] := by rw [Nat.sub_self]; rfl
    rw [hz, List.append_nil]
    (refine LWP.seq <| LWP.region (by kernel_rfl) <| klt rfl rfl (decide_eq_false (by omega)) <| RunK.nil <| LWP.seq <| LWP.condF rfl ?_; refine LWP.exit <| LWP.seq <| LWP.region (by kernel_rfl) <| K.loadAll rfl rfl rfl .plain ?_; refine K.storeAll rfl rfl rfl rfl rfl rfl .plain ?_; refine RunK.nil <| LWP.ret ?_)
    exact ⟨[(1000001, 12)], ⟨[_], ⟨⟨_, _, rfl, rfl, rfl, .inl ⟨AggT.h, rfl⟩⟩, trivial⟩, rfl⟩, (by repeat' (first | exact trivial | refine And.intro ⟨_, rfl, ?_⟩ ?_ | refine And.intro ⟨_, rfl⟩ ?_ | rfl | exact Box.ren_bytes _ _ _ _ | exact Box.ren_vals _ _ _ _ | exact Box.ren_mid rfl)), rfl, rfl⟩
section
variable {P : Program} {Q : Exit → St → Prop} {c : Code} {n : Nat} {C : Ctx} {X : Nat → Option Obj} {s : List (Nat × LV)} {bx : List (Nat × Option Box)} {k : Nat}
theorem sc_shutW {cs : List Cp} {H : Nat → Option Obj} {cells sp : List Value} (hO : OwnedM C X H) (G : Twigs H 57 3 [] cells (cs.map fun c => flV c.fs)) (hb : InB cs)
    (h : LWP P n C c Q ⟨s, scB k cs :: bx, X⟩) : LWP P n C c Q ⟨s, (k, some ⟨60, (rowsZ cs cells ++ sp).map .val, false⟩) :: bx, joinM X H⟩ := by
  refine LWP.closeRes (vals := rowsZ cs cells ++ sp) hO (fun ρ fr h1 h2 h3 => ?_) h
  refine ⟨_, fr, cells, sp, withBlock_at _ _ _, ?_, ?_, ?_, hb⟩
  · rw [h3]; simp
  · simp
  · rw [cut_with h1]; exact G
end
theorem chk_made {S : Nat → Option (Option Box)} {ver : Int} {k : Nat} {cs : List Cp} {e : TypeId} {cc : List CV} {ce : Int} (hbig : cs.length < 4611686018427387904) (hN : NamesC cs) (hck : chkE ⟨ver, cs⟩ = ce) (hk : S k = some (some ⟨e, cc, .res (scR cs)⟩)) :
    ∀ (Y : Nat → Option Obj) (us : List Value), (∀ b o, X b = some o → Y b = some o) → LentLs S Y [.sv (.agg [.val (.int .i64 ver), .slc k 0 cs.length 3])] us → PSpec Tryz.prog Y 20 (us.map toLV) (Ln .i64 ce) := by
  intro Y us _ hL
  obtain ⟨u2, us2, rfl, ⟨bs, rfl, b1, bs1, rfl, h3, b2, bs2, rfl, ⟨b, blk, cap2, m, hk', rfl, hc, hfit, hB⟩, rfl⟩, rfl⟩ := hL
  have h3 : b1 = .int .i64 ver := h3
  subst h3
  rw [hk] at hk'
  simp only [Option.some.injEq] at hk'
  subst hk'
  obtain ⟨H, hR, hHY⟩ := hB
  exact pCheckBig Y ⟨ver, cs⟩ (some ⟨blk, 0, none⟩) cap2 (scR_in hR hHY) hbig hN ce hck
abbrev szB (k : Nat) : Nat × Option Box := (k, some ⟨24, [.val (.int .i64 0), .val (.slice none 0 0)], false⟩)
abbrev sdB (k : Nat) (ver : Int) (j n : Nat) : Nat × Option Box := (k, some ⟨24, [.val (.int .i64 ver), .slc j 0 n 3], false⟩)
abbrev rdB (k : Nat) (l : List UInt8) (b : Bool) : Nat × Option Box := (k, some ⟨108, [vs l, .val (.bool b)], false⟩)
abbrev dcSt (l : List UInt8) (b : Bool) (first : Nat) (ver : Int) (m i : Nat) (cells : List Value) (X : Nat → Option Obj) : St :=
  ⟨[(2, Lp 2), (4, Lp 700), (5, Ln .i64 (first : Nat)), (6, Lp 6), (22, Ln .i64 (m : Nat)), (23, Ln .i64 (i : Nat))], [(18, some ⟨60, cells.map .val, false⟩), rdB 700 l b, sdB 6 ver 18 m, szB 2], X⟩
def dcR (l : List UInt8) : LV := match decS l with | some s => .tup [.agg [.val (.int .i64 s.ver), .slc 1000001 0 s.cs.length 3], Sn .i64 0] | none => .tup [.agg [.val (.int .i64 0), .val (.slice none 0 0)], Sn .i64 4]
def dcBx (l : List UInt8) : List (Nat × Option Box) := match decS l with | some s => [scB 1000001 s.cs] | none => []
theorem dc_none {l : List UInt8} (h : decS l = none) : dcR l = .tup [.agg [.val (.int .i64 0), .val (.slice none 0 0)], Sn .i64 4] ∧ dcBx l = [] := by unfold dcR dcBx; rw [h]; exact ⟨rfl, rfl⟩
theorem dc_some {l : List UInt8} {s : Sc} (h : decS l = some s) : dcR l = .tup [.agg [.val (.int .i64 s.ver), .slc 1000001 0 s.cs.length 3], Sn .i64 0] ∧ dcBx l = [scB 1000001 s.cs] := by unfold dcR dcBx; rw [h]; exact ⟨rfl, rfl⟩
theorem dcBx_use (l : List UInt8) : ((dcBx l).all fun p => match p.2 with | some b => b.cells.all (CV.inUse (dcBx l)) | none => true) = true := by
  cases h : decS l with
  | none => rw [(dc_none h).2]; rfl
  | some s => rw [(dc_some h).2]; rfl
theorem dcR_use (l : List UInt8) : LV.inUse (dcBx l) (dcR l) = true := by
  cases h : decS l with
  | none => rw [(dc_none h).1, (dc_none h).2]; rfl
  | some s => rw [(dc_some h).1, (dc_some h).2]; rfl
set_option maxHeartbeats 6400000 in
theorem cDecode (l : List UInt8) (hb : l.length < 1099511627776) : MSpec Tryz.prog X 12 [Ls l] [] (dcR l) (dcBx l) := by
  have hS := decS_t l
  have h1 := takeSmall_t X l false (by omega)
  have g1 := (tSm_less (l, false)).1
  unfold tA at hS
  rcases hy1 : tSm (l, false) with ⟨first, l1, b1⟩
  rw [hy1] at h1 g1 hS
  simp only at h1 g1 hS
  have h2 := Num4_t X l1 b1 (by omega)
  have g2 := (tVe_less (l1, b1)).1
  have k2 := tVe_lt (l1, b1)
  rcases hy2 : tVe (l1, b1) with ⟨vn, l2, b2⟩
  rw [hy2] at h2 g2 k2 hS
  simp only at h2 g2 k2 hS
  have h3 := takeSmall_t X l2 b2 (by omega)
  have g3 := (tSm_less (l2, b2)).1
  have k3 := (tSm (l2, b2)).1.toNat_lt
  rcases hy3 : tSm (l2, b2) with ⟨m, l3, b3⟩
  rw [hy3] at h3 g3 k3 hS
  simp only at h3 g3 k3 hS
  generalize m.toNat = m at *
  refine MSpec.intro Tryz.func12 rfl (by kernel_rfl) rfl (dcR_use l) (dcBx_use l) rfl rfl ?_
  intro C
  have hmk : slcBuild Tryz.prog 22 m = some (zer m, 3, 60) := slcBuild_many (z := #[.int .i64 0, .string ⟨#[]⟩, .slice none 0 0]) (by kernel_rfl) (by kernel_rfl) rfl (by omega)
  have hw2 : IntKind.i64.wrap ((vn : Nat) : Int) = ((vn : Nat) : Int) := wrap_i64 (by omega)
  have hR := Read_spec X l
  (refine LWP.seq <| LWP.region (by kernel_rfl) <| K.alloc rfl .plain ?_; refine kas rfl <| RunK.nil <| LWP.seq <| LWP.region (by kernel_rfl) <| kmv rfl <| K.callMp [(1000001, 700)] (Lp 700) (rd 700 l false) (hR) rfl rfl (by exact trivial) rfl rfl rfl rfl rfl (by exact (.box rfl rfl .nil)) .plain <| kas rfl <| RunK.nil <| LWP.seq <| LWP.region (by kernel_rfl) <| kmv rfl <| K.callM [(1000000, 700)] (rd 700 l1 b1) (h1) rfl rfl (by exact (And.intro ⟨_, rfl, rfl⟩ trivial)) (by exact (all_cons_true (all_cons_true rfl (all_cons_true rfl rfl)) rfl)) rfl rfl rfl rfl (by exact (.box rfl rfl .nil)) .plain <| kas rfl <| RunK.nil ?_; refine LWP.seq <| LWP.region (by kernel_rfl) <| kmv rfl <| K.callM [(1000000, 700)] (rd 700 l2 b2) (h2) rfl rfl (by exact (And.intro ⟨_, rfl, rfl⟩ trivial)) (by exact (all_cons_true (all_cons_true rfl (all_cons_true rfl rfl)) rfl)) rfl rfl rfl rfl (by exact (.box rfl rfl .nil)) .plain <| kcv rfl hw2 ?_; refine K.build rfl rfl (by exact rfl) (by exact nl2 rfl rfl rfl) .plain ?_; refine K.alloc rfl .plain ?_; refine K.storeAll rfl rfl rfl rfl rfl rfl .plain ?_; refine RunK.nil <| LWP.seq <| LWP.region (by kernel_rfl) <| kmv rfl <| K.callM [(1000000, 700)] (rd 700 l3 b3) (h3) rfl rfl (by exact (And.intro ⟨_, rfl, rfl⟩ trivial)) (by exact (all_cons_true (all_cons_true rfl (all_cons_true rfl rfl)) rfl)) rfl rfl rfl rfl (by exact (.box rfl rfl .nil)) .plain <| K.makeSlc (m := m) (bytes := 48) rfl rfl hmk (by kernel_rfl) (by omega) rfl rfl .plain <| kfa rfl rfl ?_; refine K.storeOne rfl rfl rfl rfl rfl (nl2 rfl rfl rfl) .plain <| RunK.nil <| LWP.seq <| LWP.seq <| LWP.region (by kernel_rfl) <| kfa rfl rfl ?_; refine kl1 rfl rfl rfl <| K.lenSlc rfl SliceT.h rfl .plain ?_; refine kmv rfl <| RunK.nil <| LWP.block ?_)
  refine LWP.loopL (fun k σ => ∃ (i : Nat) (cs : List Cp) (l' : List UInt8) (b' : Bool) (cells : List Value) (H : Nat → Option Obj), i ≤ m ∧ k = m - i ∧ tCs (l3, b3) i = (cs, l', b') ∧ OwnedM C X H ∧ Twigs H 57 3 [] cells (cs.map fun c => flV c.fs) ∧ σ = dcSt l' b' first.toNat (vn : Nat) m i (rowsZ cs cells ++ zer (m - i)) (joinM X H)) m
    (Leads.le (σ' := dcSt l3 b3 first.toNat (vn : Nat) m 0 (rowsZ [] [] ++ zer (m - 0)) X) ?_ (Leads.done ⟨0, [], l3, b3, [], fun _ => none, by omega, by omega, rfl, OwnedM.nil _ _, Twigs.nil _ _ _ _, rfl⟩)) ?_
  · exact Le.of (by exact ⟨rfl, rfl, rfl, rfl, rfl, rfl, trivial⟩) (by exact ⟨rfl, rfl, rfl, rfl, trivial⟩) (by exact rfl) (by exact rfl) (by repeat' (first | refine all_cons_true ?_ ?_ | rfl | exact bytes_inUse | exact vals_inUse | exact mid_inUse rfl))
  rintro k σ ⟨i, cs, l', b', cells, H, hi, rfl, hT, hO, G, rfl⟩
  have hcn : cs.length = i := by have := tCs_len (l3, b3) i; rw [hT] at this; exact this
  have hl' : l'.length ≤ l3.length := by have := (tCs_less (l3, b3) i).1; rw [hT] at this; exact this
  have hcl : cells.length = cs.length := by rw [G.len, List.length_map]
  have hok : ∀ c ∈ cs, okC c := by have := tCs_ok (l3, b3) i; rw [hT] at this; exact this
  by_cases hlt : i < m
  · have hF := takeComp_t (joinM X H) l' b' (by omega)
    rcases hy : tC (l', b') with ⟨c, l4, b4⟩
    rw [hy] at hF
    simp only at hF
    have hT2 : tCs (l3, b3) (i + 1) = (cs ++ [c], l4, b4) := by simp only [tCs, hT, hy]
    have hix : 0 + Int.toNat (i : Int) * 3 = i * 3 := by rw [Int.toNat_natCast]; omega
    have hpl : (rowsZ cs cells).length = i * 3 := by rw [rowsZ_len hcl, hcn]
    have hroom : i * 3 + 3 ≤ ((rowsZ cs cells ++ zer (m - i)).map CV.val).length := by rw [List.length_map, List.length_append, hpl, zer_len]; omega
    have hspl : splice ((rowsZ cs cells ++ zer (m - i)).map CV.val) (i * 3) [.val (.int .i64 c.id), .val (.string ⟨c.nm.toArray⟩), .slc 30 0 c.fs.length 3] = (rowsZ cs cells ++ [Value.int .i64 c.id, Value.string ⟨c.nm.toArray⟩]).map CV.val ++ .slc 30 0 c.fs.length 3 :: (zer (m - (i + 1))).map .val := by
      unfold splice
      rw [show m - i = (m - (i + 1)) + 1 by omega, zer_succ]
      simp only [List.map_append, List.append_assoc]
      have hml : ((rowsZ cs cells).map CV.val).length = i * 3 := by rw [List.length_map, hpl]
      generalize (rowsZ cs cells).map CV.val = R at *
      rw [← hml, List.take_left, List.drop_length_add_append]
      simp
    have hadd : IntKind.i64.wrap (((i : Nat) : Int) + 1) = ((i + 1 : Nat) : Int) := by rw [wrap_i64 (by omega)]; omega
    (refine LWP.seq <| LWP.region (by kernel_rfl) <| klt rfl rfl (decide_eq_true (by omega)) <| RunK.nil <| LWP.seq <| LWP.condT rfl ?_; refine LWP.skip ?_; refine LWP.seq <| LWP.block <| LWP.seq <| LWP.region (by kernel_rfl) <| kmv rfl <| kas rfl <| RunK.nil <| LWP.draws mixed (by kernel_rfl) <| kfa rfl rfl ?_; refine kl1 rfl rfl rfl <| kmv rfl <| kmv rfl <| K.callMp [(1000000, 700), (1000001, 30)] (.sv (SCs c 30)) (rd 700 l4 b4 ++ [fmB 30 c.fs]) (hF) rfl rfl (by exact (And.intro ⟨_, rfl, rfl⟩ trivial)) (by exact (all_cons_true (all_cons_true rfl (all_cons_true rfl rfl)) rfl)) rfl rfl rfl rfl (by exact (.box rfl rfl (.box rfl (Box.ren_vals _ _ _ _) .nil))) .plain <| K.indexSlc rfl rfl (by omega) hix .plain ?_; refine K.store rfl rfl rfl rfl (by kernel_rfl) hroom hspl .plain <| RunK.nil <| And.intro (by kernel_rfl) ?_; refine LWP.region (by kernel_rfl) <| kad rfl rfl hadd <| kmv rfl <| RunK.nil ?_)
    refine Leads.le (σ' := ⟨[(2, Lp 2), (4, Lp 700), (5, Ln .i64 (first.toNat : Nat)), (6, Lp 6), (22, Ln .i64 (m : Nat)), (23, Ln .i64 (i + 1 : Nat))], [(18, some ⟨60, (rowsZ cs cells ++ [Value.int .i64 c.id, Value.string ⟨c.nm.toArray⟩]).map CV.val ++ .slc 30 0 c.fs.length 3 :: (zer (m - (i + 1))).map .val, false⟩), (30, some ⟨57, (flV c.fs).map .val, false⟩), rdB 700 l4 b4, sdB 6 (vn : Nat) 18 m, szB 2], joinM X H⟩) (Le.of (by exact ⟨rfl, rfl, rfl, rfl, rfl, rfl, trivial⟩) (by exact ⟨rfl, rfl, rfl, rfl, rfl, trivial⟩) (by exact rfl) (by exact rfl) (by repeat' (first | refine all_cons_true ?_ ?_ | rfl | exact bytes_inUse | exact vals_inUse | exact mid_inUse rfl))) ?_
    refine Leads.closeCell hO (flV_len _) rfl vals_inUse vals_inUse rfl rfl rfl fun b o v q1 _ hO3 hv => Leads.done ⟨m - (i + 1), by omega, i + 1, cs ++ [c], l4, b4, cells ++ [v], withBlock H b o, by omega, rfl, hT2, hO3, ?_, ?_⟩
    · rw [List.map_append, List.map_cons, List.map_nil]
      by_cases hf0 : flV c.fs = []
      · rw [hf0] at hv ⊢
        obtain ⟨len, cap', arr, fr, rfl, e2, _⟩ := hv
        have e0 : len = 0 := by rw [List.length_nil] at e2; omega
        subst e0
        exact (G.more q1).pushZ _ _
      · exact G.push q1 hv hf0
    · rw [rowsZ_add hcl]
      unfold dcSt
      simp
  · have e : i = m := by omega
    subst e
    rw [hT] at hS
    simp only at hS
    rw [Nat.sub_self]
    rw [← hcn] at *
    (refine LWP.seq <| LWP.region (by kernel_rfl) <| klt rfl rfl (decide_eq_false (by omega)) <| RunK.nil <| LWP.seq <| LWP.condF rfl ?_; refine LWP.exit <| LWP.seq <| LWP.seq ?_)
    have hin := okC_inB hok
    have hnm := okC_names hok
    refine LWP.le (σ' := ⟨[(2, Lp 2), (4, Lp 700), (5, Ln .i64 (first.toNat : Nat)), (6, Lp 6)], [(18, some ⟨60, (rowsZ cs cells ++ zer 0).map .val, false⟩), rdB 700 l' b', sdB 6 (vn : Nat) 18 cs.length, szB 2], joinM X H⟩) (Le.of (by exact ⟨rfl, rfl, rfl, rfl, trivial⟩) (by exact ⟨rfl, rfl, rfl, rfl, trivial⟩) (by exact rfl) (by exact rfl) (by repeat' (first | refine all_cons_true ?_ ?_ | rfl | exact bytes_inUse | exact vals_inUse | exact mid_inUse rfl))) ?_
    refine sc_shutW hO G hin ?_
    have hk1 := first.toNat_lt
    by_cases hd : (!b' && (l' == [])) = true
    · have hD := Done_spec X l' b' _ rfl
      rw [hd] at hD
      have hd2 : l' = [] ∧ b' = false := by simpa [and_comm] using hd
      obtain ⟨rfl, rfl⟩ := hd2
      by_cases hm : first = 83
      · subst hm
        have hne : ((((83 : UInt8).toNat : Nat) : Int) != 83) = false := by decide
        by_cases hz : chkE ⟨(vn : Nat), cs⟩ = 0
        · rw [if_pos ⟨rfl, rfl, hz⟩] at hS
          obtain ⟨q1, q2⟩ := dc_some hS
          rw [q1, q2]
          have hc := fun (S : Nat → Option (Option Box)) (hk : S 18 = some (some ⟨0, [], .res (scR cs)⟩)) => chk_made X (S := S) (k := 18) (ver := (vn : Nat)) (by omega) hnm hz hk
          (refine LWP.region (by kernel_rfl) <| kmv rfl <| K.callM [(1000000, 700)] (rd 700 [] false) (hD) rfl rfl (by exact (And.intro ⟨_, rfl, rfl⟩ trivial)) (by exact (all_cons_true (all_cons_true rfl (all_cons_true rfl rfl)) rfl)) rfl rfl rfl rfl (by exact (.box rfl rfl .nil)) .plain <| K.not rfl rfl .plain <| kmv rfl <| gmv rfl rfl rfl <| K.neq rfl rfl hne (.taken rfl rfl) ?_; refine kpf rfl rfl <| kmv rfl <| K.loadAll rfl rfl rfl (.taken rfl rfl) ?_; refine K.callL [18] rfl rfl rfl (hc _ rfl) (.taken rfl rfl) ?_; refine K.neq rfl rfl (r := false) (by decide) (.taken rfl rfl) ?_; refine kpf rfl rfl <| RunK.nil <| LWP.condF rfl ?_; refine LWP.skip ?_; refine LWP.seq <| LWP.region (by kernel_rfl) <| K.loadAll rfl rfl rfl .plain ?_; refine K.storeAll rfl rfl rfl rfl rfl rfl .plain ?_; refine kas rfl <| RunK.nil <| LWP.ret ?_)
          exact ⟨[(1000001, 18)], ⟨[_, _], ⟨⟨_, _, rfl, rfl, rfl, .inl ⟨AggT.h, rfl⟩⟩, rfl, trivial⟩, rfl⟩, (by repeat' (first | exact trivial | refine And.intro ⟨_, rfl, ?_⟩ ?_ | refine And.intro ⟨_, rfl⟩ ?_ | rfl | exact Box.ren_bytes _ _ _ _ | exact Box.ren_vals _ _ _ _ | exact Box.ren_mid rfl)), rfl, rfl⟩
        · rw [if_neg fun h => hz h.2.2] at hS
          obtain ⟨q1, q2⟩ := dc_none hS
          rw [q1, q2]
          have hne2 : (chkE ⟨(vn : Nat), cs⟩ != 0) = true := by rw [bne_iff_ne]; exact hz
          have hc := fun (S : Nat → Option (Option Box)) (hk : S 18 = some (some ⟨0, [], .res (scR cs)⟩)) => chk_made X (S := S) (k := 18) (ver := (vn : Nat)) (by omega) hnm rfl hk
          generalize chkE ⟨(vn : Nat), cs⟩ = ce at *
          (refine LWP.region (by kernel_rfl) <| kmv rfl <| K.callM [(1000000, 700)] (rd 700 [] false) (hD) rfl rfl (by exact (And.intro ⟨_, rfl, rfl⟩ trivial)) (by exact (all_cons_true (all_cons_true rfl (all_cons_true rfl rfl)) rfl)) rfl rfl rfl rfl (by exact (.box rfl rfl .nil)) .plain <| K.not rfl rfl .plain <| kmv rfl <| gmv rfl rfl rfl <| K.neq rfl rfl hne (.taken rfl rfl) ?_; refine kpf rfl rfl <| kmv rfl <| K.loadAll rfl rfl rfl (.taken rfl rfl) ?_; refine K.callL [18] rfl rfl rfl (hc _ rfl) (.taken rfl rfl) ?_; refine K.neq rfl rfl hne2 (.taken rfl rfl) ?_; refine kpf rfl rfl <| RunK.nil <| LWP.condT rfl ?_; refine LWP.seq <| LWP.region (by kernel_rfl) <| K.build rfl rfl (by exact rfl) (by exact nl2 rfl rfl rfl) .plain ?_; refine K.storeAll rfl rfl rfl rfl rfl rfl .plain ?_; refine kas rfl <| RunK.nil <| LWP.ret ?_)
          exact ⟨[], ⟨[_, _], ⟨⟨_, _, rfl, rfl, rfl, .inl ⟨AggT.h, rfl⟩⟩, rfl, trivial⟩, rfl⟩, (by repeat' (first | exact trivial | refine And.intro ⟨_, rfl, ?_⟩ ?_ | refine And.intro ⟨_, rfl⟩ ?_ | rfl | exact Box.ren_bytes _ _ _ _ | exact Box.ren_vals _ _ _ _ | exact Box.ren_mid rfl)), rfl, rfl⟩
      · rw [if_neg fun h => hm h.2.1] at hS
        obtain ⟨q1, q2⟩ := dc_none hS
        rw [q1, q2]
        have hne : (((first.toNat : Nat) : Int) != 83) = true := by
          rw [bne_iff_ne]
          intro h
          exact hm (UInt8.toNat_inj.1 (by rw [show (83 : UInt8).toNat = 83 from rfl]; omega))
        (refine LWP.region (by kernel_rfl) <| kmv rfl <| K.callM [(1000000, 700)] (rd 700 [] false) (hD) rfl rfl (by exact (And.intro ⟨_, rfl, rfl⟩ trivial)) (by exact (all_cons_true (all_cons_true rfl (all_cons_true rfl rfl)) rfl)) rfl rfl rfl rfl (by exact (.box rfl rfl .nil)) .plain <| K.not rfl rfl .plain <| kmv rfl <| gmv rfl rfl rfl <| K.neq rfl rfl hne (.taken rfl rfl) ?_; refine kpf rfl rfl <| kmv rfl <| RunK.passed rfl rfl rfl <| RunK.passed rfl rfl rfl <| RunK.passed rfl rfl rfl <| kpt rfl rfl <| RunK.nil <| LWP.condT rfl ?_; refine LWP.seq <| LWP.region (by kernel_rfl) <| K.build rfl rfl (by exact rfl) (by exact nl2 rfl rfl rfl) .plain ?_; refine K.storeAll rfl rfl rfl rfl rfl rfl .plain ?_; refine kas rfl <| RunK.nil <| LWP.ret ?_)
        exact ⟨[], ⟨[_, _], ⟨⟨_, _, rfl, rfl, rfl, .inl ⟨AggT.h, rfl⟩⟩, rfl, trivial⟩, rfl⟩, (by repeat' (first | exact trivial | refine And.intro ⟨_, rfl, ?_⟩ ?_ | refine And.intro ⟨_, rfl⟩ ?_ | rfl | exact Box.ren_bytes _ _ _ _ | exact Box.ren_vals _ _ _ _ | exact Box.ren_mid rfl)), rfl, rfl⟩
    · have hD := Done_spec X l' b' _ rfl
      rw [Bool.not_eq_true] at hd
      rw [hd] at hD
      rw [if_neg] at hS
      · obtain ⟨q1, q2⟩ := dc_none hS
        rw [q1, q2]
        (refine LWP.region (by kernel_rfl) <| kmv rfl <| K.callM [(1000000, 700)] (rd 700 l' b') (hD) rfl rfl (by exact (And.intro ⟨_, rfl, rfl⟩ trivial)) (by exact (all_cons_true (all_cons_true rfl (all_cons_true rfl rfl)) rfl)) rfl rfl rfl rfl (by exact (.box rfl rfl .nil)) .plain <| K.not rfl rfl .plain <| kmv rfl <| RunK.passed rfl rfl rfl <| RunK.passed rfl rfl rfl <| kpt rfl rfl <| kmv rfl <| RunK.passed rfl rfl rfl <| RunK.passed rfl rfl rfl <| RunK.passed rfl rfl rfl <| kpt rfl rfl <| RunK.nil ?_; refine LWP.condT rfl ?_; refine LWP.seq <| LWP.region (by kernel_rfl) <| K.build rfl rfl (by exact rfl) (by exact nl2 rfl rfl rfl) .plain ?_; refine K.storeAll rfl rfl rfl rfl rfl rfl .plain ?_; refine kas rfl <| RunK.nil <| LWP.ret ?_)
        exact ⟨[], ⟨[_, _], ⟨⟨_, _, rfl, rfl, rfl, .inl ⟨AggT.h, rfl⟩⟩, rfl, trivial⟩, rfl⟩, (by repeat' (first | exact trivial | refine And.intro ⟨_, rfl, ?_⟩ ?_ | refine And.intro ⟨_, rfl⟩ ?_ | rfl | exact Box.ren_bytes _ _ _ _ | exact Box.ren_vals _ _ _ _ | exact Box.ren_mid rfl)), rfl, rfl⟩
      · rintro ⟨h, _⟩
        cases h
        simp at hd
theorem cDecode_no (l : List UInt8) (hb : l.length < 1099511627776) (h : decS l = none) : MSpec Tryz.prog X 12 [Ls l] [] (.tup [.agg [.val (.int .i64 0), .val (.slice none 0 0)], Sn .i64 4]) [] := by
  have := cDecode X l hb
  rw [(dc_none h).1, (dc_none h).2] at this
  exact this
theorem cDecode_ok (l : List UInt8) (hb : l.length < 1099511627776) {s : Sc} (h : decS l = some s) : MSpec Tryz.prog X 12 [Ls l] [] (.tup [.agg [.val (.int .i64 s.ver), .slc 1000001 0 s.cs.length 3], Sn .i64 0]) [scB 1000001 s.cs] := by
  have := cDecode X l hb
  rw [(dc_some h).1, (dc_some h).2] at this
  exact this
end Go.Proofs.YtnomcmklhbjfjaaGreatDoor
end
section
namespace Go.Proofs.YtnomcmklhbjfjaaGreatDoor
open Go Go.Lg
variable (X : Nat → Option Obj)
theorem WName_1 (l s : List UInt8) (hn : fitW 1 (s.length : Nat) = true) (hs : s.length < 100000000) (hl : l.length < 800000000) : MSpec Tryz.prog X 52 [Lp 1000000, Ls s] (w1 1000000 1000001 1000002 l) (Lb true) (w1 1000000 1000001 1000003 ((l ++ leB 1 s.length) ++ s) ++ [(1000002, none)]) := by
  have hf : s.length < 256 ^ 1 := by unfold fitW at hn; simp only [Bool.and_eq_true, decide_eq_true_eq] at hn; exact hn.2
  refine MSpec.intro Tryz.func52 rfl (by kernel_rfl) rfl rfl (by repeat' (first | refine all_cons_true ?_ ?_ | rfl | exact bytes_inUse | exact vals_inUse | exact mid_inUse rfl)) rfl rfl ?_
  intro C
  have hz : (⟨s.toArray⟩ : ByteArray).size = s.length := rfl
  have wl : IntKind.u64.wrap (((⟨s.toArray⟩ : ByteArray).size : Nat) : Int) = (s.length : Nat) := by rw [wrap_u64 (by omega)]; rfl
  (refine LWP.seq <| LWP.region (by kernel_rfl) <| kas rfl <| RunK.nil <| LWP.seq <| LWP.region (by kernel_rfl) <| kmv rfl <| kmv rfl <| kln rfl <| kcv rfl wl ?_; refine K.callM [(1000003, 501)] (w1 1000000 1000001 501 (l ++ leB 1 s.length) ++ [(1000002, none)]) (WNum_1_1 X l s.length (by omega) hf (by omega)) rfl rfl (by exact (And.intro ⟨_, rfl, rfl⟩ (And.intro ⟨_, rfl, rfl⟩ (And.intro ⟨_, rfl, (Box.ren_bytes _ _ _ _)⟩ trivial)))) (by exact (all_cons_true (all_cons_true rfl (all_cons_true rfl rfl)) (all_cons_true (all_cons_true rfl rfl) (all_cons_true bytes_inUse rfl)))) rfl rfl rfl rfl (by exact (.box rfl rfl (.box rfl rfl (.box rfl (Box.ren_bytes _ _ _ _) (.dead rfl .nil))))) .plain <| kmv rfl <| gmv rfl rfl rfl <| gmv rfl rfl rfl <| K.callM [(1000002, 501), (1000003, 503)] (w1 1000000 1000001 503 ((l ++ leB 1 s.length) ++ s) ++ [(501, none)]) (WRaw_1 X (l ++ leB 1 s.length) s (by rw [List.length_append, leB_length]; omega)) rfl rfl (by exact (And.intro ⟨_, rfl, rfl⟩ (And.intro ⟨_, rfl, rfl⟩ (And.intro ⟨_, rfl, (Box.ren_bytes _ _ _ _)⟩ trivial)))) (by exact (all_cons_true (all_cons_true rfl (all_cons_true rfl rfl)) (all_cons_true (all_cons_true rfl rfl) (all_cons_true bytes_inUse rfl)))) rfl rfl rfl rfl (by exact (.box rfl rfl (.box rfl rfl (.box rfl (Box.ren_bytes _ _ _ _) (.dead rfl .nil))))) (.taken rfl rfl) ?_; refine kpt rfl rfl <| kas rfl <| RunK.nil <| LWP.ret ?_)
  exact ⟨[(1000003, 503)], ⟨[_], ⟨rfl, trivial⟩, rfl⟩, (by repeat' (first | exact trivial | refine And.intro ⟨_, rfl, ?_⟩ ?_ | refine And.intro ⟨_, rfl⟩ ?_ | rfl | exact Box.ren_bytes _ _ _ _ | exact Box.ren_vals _ _ _ _ | exact Box.ren_mid rfl)), rfl, rfl⟩
end Go.Proofs.YtnomcmklhbjfjaaGreatDoor
end
