/- A piece of a proof over this program: contracts of its functions, and a logic to prove them by. -/
import Derived.Test.YtklofjlbjahnaaaDoorP2
import Derived.Test.YtklofjlbjahnaaaDoorP3
import Derived.Laws.BitsAllLaws
import Derived.Lib.Join
import Derived.Lib.IndexLaws
import Derived.Test.YtklofjlbjahnaaaDoorShelf
section
namespace Go.Lg.Sg
open Go Go.Lg
theorem take_cons {α : Type} {l : List α} {i : Nat} {x : α} (h : l[i]? = some x) : l = l.take i ++ x :: l.drop (i + 1) := by
  obtain ⟨hi, e⟩ := List.getElem?_eq_some_iff.1 h
  rw [← e, ← List.drop_eq_getElem_cons hi, List.take_append_drop]
theorem run_fail {s : List UInt8} {i : Nat} {q : List Int × Int} {c : UInt8} (h : runS ([], -1) (s.take i) = some q) (hc : s[i]? = some c) (hn : chS q c = none) : runS ([], -1) s = none := by
  rw [take_cons hc, runS_append, h]
  show runS q (c :: s.drop (i + 1)) = none
  unfold runS
  rw [List.foldlM_cons, hn]
  rfl
theorem run_step {s : List UInt8} {i : Nat} {q q' : List Int × Int} {c : UInt8} (h : runS ([], -1) (s.take i) = some q) (hc : s[i]? = some c) (hn : chS q c = some q') : runS ([], -1) (s.take (i + 1)) = some q' := by
  rw [Fld.take_snoc hc, runS_append, h]
  show (chS q c).bind (fun q => runS q []) = some q'
  rw [hn]
  rfl
theorem rd_len {p : List UInt8} {q : List Int × Int} (h : Rd p q) : q.1.length ≤ 24 := by
  have hok : ∀ x ∈ q.1, okI x = true := fun x hx => okI_iff.2 (h.ids x hx)
  rw [← ids_ofN hok h.rise]
  exact idsTo_len _ 24
theorem parse_no1 {s : List UInt8} (h45 : s ≠ [45]) (h : runS ([], -1) s = none) : parseA s = none := by
  unfold parseA
  rw [if_neg h45, h]
  rfl
theorem parse_no2 {s : List UInt8} {q : List Int × Int} (h45 : s ≠ [45]) (h : runS ([], -1) s = some q) (hq : sepS q = none) : parseA s = none := by
  unfold parseA
  rw [if_neg h45, h]
  show (sepS q).map _ = none
  rw [hq]
  rfl
theorem parse_yes {s : List UInt8} {q q' : List Int × Int} (h45 : s ≠ [45]) (h : runS ([], -1) s = some q) (hq : sepS q = some q') : parseA s = some (ofN q'.1) := by
  unfold parseA
  rw [if_neg h45, h]
  show (sepS q).map _ = _
  rw [hq]
  rfl
theorem sep_no {l : List Int} {n : Int} (h : n < 1 ∨ 24 < n ∨ ∃ y, l.getLast? = some y ∧ n ≤ y) : sepS (l, n) = none := by
  unfold sepS
  rw [if_pos]
  rcases h with h | h | ⟨y, h1, h2⟩
  · exact .inl h
  · exact .inr (.inl h)
  · refine .inr (.inr ?_)
    rw [show (l, n).1.getLast? = some y from h1]
    exact decide_eq_true h2
theorem sep_yes {l : List Int} {n : Int} (h1 : ¬n < 1) (h2 : ¬24 < n) (h3 : ∀ y, l.getLast? = some y → ¬n ≤ y) : sepS (l, n) = some (l ++ [n], -1) := by
  unfold sepS
  rw [if_neg]
  rintro (h | h | h)
  · exact h1 h
  · exact h2 h
  · cases hl : l.getLast? with
    | none => rw [show (l, n).1.getLast? = none from hl] at h; cases h
    | some y =>
      rw [show (l, n).1.getLast? = some y from hl] at h
      exact h3 y hl (of_decide_eq_true h)
theorem ch_sep (q : List Int × Int) : chS q 43 = sepS q := if_pos rfl
theorem ch_no {l : List Int} {n : Int} {c : UInt8} (h : c ≠ 43) (hn : c.toNat < 48 ∨ 57 < c.toNat ∨ n = 0 ∨ 99 < n ∨ (n < 0 ∧ c.toNat = 48)) : chS (l, n) c = none := by
  unfold chS
  rw [if_neg h, show digS (l, n).2 c = none from if_pos hn]
  rfl
theorem ch_yes {l : List Int} {n : Int} {c : UInt8} (h : c ≠ 43) (hn : ¬(c.toNat < 48 ∨ 57 < c.toNat ∨ n = 0 ∨ 99 < n ∨ (n < 0 ∧ c.toNat = 48))) : chS (l, n) c = some (l, (if n < 0 then 0 else n) * 10 + ((c.toNat : Int) - 48)) := by
  unfold chS
  rw [if_neg h, show digS (l, n).2 c = _ from if_neg hn]
  rfl
theorem last_at {l : List Int} {y : Int} (h : l.getLast? = some y) : l[l.length - 1]? = some y := by
  rw [List.getLast?_eq_getElem?] at h
  exact h
def Far (s : List UInt8) (i : Nat) (ids : List Int) (n : Int) : Prop := (i ≤ s.length ∧ runS ([], -1) (s.take i) = some (ids, n)) ∨ (i = s.length + 1 ∧ ∃ q, runS ([], -1) s = some q ∧ sepS q = some (ids, n))
end Go.Lg.Sg
namespace Go.Proofs.YtklofjlbjahnaaaDoor
open Go Go.Lg Go.Lg.Fld Go.Lg.Sg
set_option maxRecDepth 100000
variable (X : Nat → Option Obj)
def parT (s : List UInt8) : Nat × Bool := match parseA s with | some a => (a, true) | none => (0, false)
theorem parT_no {s : List UInt8} (h : parseA s = none) : parT s = (0, false) := by unfold parT; rw [h]
theorem parT_yes {s : List UInt8} {a : Nat} (h : parseA s = some a) : parT s = (a, true) := by unfold parT; rw [h]
abbrev pzSt (s : List UInt8) (i : Int) (ids : List Int) (n : Int) (r : Bool) (Y : Nat → Option Obj) : St := ⟨[(0, Ls s), (4, .sv (.one (.slc 500 0 ids.length))), (5, Ln .i64 n), (6, Ln .i64 i)], [nuB' 500 ids r], Y⟩
set_option maxHeartbeats 6400000 in
theorem rParse_spec (s : List UInt8) (hb : s.length < 4611686018427387904) : PSpec Tryd.prog X 23 [Ls s] (.tup [Sn .u32 ((parT s).1 : Nat), Sb (parT s).2]) := by
  refine PSpec.intro Tryd.func23 rfl (by kernel_rfl) rfl rfl ?_
  intro C
  have hlen : (⟨s.toArray⟩ : ByteArray).size = s.length := rfl
  by_cases h45 : s = [45]
  · rw [parT_yes (show parseA s = some 0 from if_pos h45)]
    have he : (s == ([45] : List UInt8)) = true := beq_iff_eq.2 h45
    (refine LWP.seq <| LWP.region (by kernel_rfl) <| kas rfl <| kas rfl <| RunK.nil <| LWP.seq <| LWP.seq <| LWP.region (by kernel_rfl) <| kmv rfl <| kse rfl rfl (strs_eq (r := true) he) <| RunK.nil <| LWP.condT rfl ?_; refine LWP.seq <| LWP.region (by kernel_rfl) <| kas rfl <| kas rfl <| RunK.nil <| LWP.ret ?_)
    exact ⟨[_, _], ⟨rfl, rfl, trivial⟩, rfl⟩
  have he : (s == ([45] : List UInt8)) = false := beq_eq_false_iff_ne.2 h45
  have hrl : ∀ l : List Int, ((nuV l).map CV.val).length = l.length * 1 := fun l => by unfold nuV; rw [List.length_map, List.length_map, Nat.mul_one]
  (refine LWP.seq <| LWP.region (by kernel_rfl) <| kas rfl <| kas rfl <| RunK.nil <| LWP.seq <| LWP.seq <| LWP.region (by kernel_rfl) <| kmv rfl <| kse rfl rfl (strs_eq (r := false) he) <| RunK.nil <| LWP.condF rfl ?_; refine LWP.skip ?_; refine LWP.seq <| LWP.region (by kernel_rfl) <| K.buildSlc (zs := []) (sz := 1) (e := 3) (by kernel_rfl) rfl rfl rfl rfl rfl rfl .plain <| kas rfl <| RunK.nil <| LWP.seq <| LWP.region (by kernel_rfl) <| kas rfl <| RunK.nil <| LWP.seq <| LWP.seq <| LWP.region (by kernel_rfl) <| kas rfl <| RunK.nil ?_; refine LWP.block ?_)
  refine LWP.loop (fun m σ => ∃ (i : Nat) (ids : List Int) (n : Int) (r : Bool), i ≤ s.length + 1 ∧ m = s.length + 1 - i ∧ Far s i ids n ∧ σ = pzSt s (i : Nat) ids n r X) (s.length + 1)
    ⟨pzSt s (0 : Nat) [] (-1) false X, Le.ofR [(500, 9)] (by exact ⟨rfl, rfl, rfl, rfl, trivial⟩) (by repeat' (first | exact trivial | refine And.intro ⟨_, rfl, ?_⟩ ?_ | refine And.intro ⟨_, rfl⟩ ?_ | rfl | exact Box.ren_bytes _ _ _ _ | exact Box.ren_vals _ _ _ _ | exact Box.ren_mid rfl)) (by exact rfl) (by exact rfl) (by repeat' (first | refine all_cons_true ?_ ?_ | rfl | exact bytes_inUse | exact vals_inUse | exact mid_inUse rfl)) (by exact rfl) (by exact rfl), 0, [], -1, false, by omega, rfl, .inl ⟨by omega, rfl⟩, rfl⟩ ?_
  rintro m σ ⟨i, ids, n, r, hi, rfl, hF, rfl⟩
  rcases hF with ⟨hil, hrun⟩ | ⟨rfl, q, hq1, hq2⟩
  · have hR := Rd.run Rd.start hrun
    rw [List.nil_append] at hR
    have hidl : ids.length ≤ 24 := rd_len hR
    have hnum : n = -1 ∨ (1 ≤ n ∧ n ≤ 999) := hR.num
    have hok : ∀ y ∈ ids, 1 ≤ y ∧ y ≤ 24 := hR.ids
    have hnc : (nuV ids).map CV.val ++ [.val (.int .i64 n)] = (nuV (ids ++ [n])).map CV.val := by unfold nuV; rw [List.map_append, List.map_append]; rfl
    have hnl : ids.length + 1 = (ids ++ [n]).length := by rw [List.length_append]; rfl
    by_cases hend : i = s.length
    · subst hend
      rw [List.take_length] at hrun
      by_cases hn1 : n < 1
      · rw [parT_no (parse_no2 h45 hrun (sep_no (.inl hn1)))]
        (refine LWP.seq <| LWP.seq <| LWP.region (by kernel_rfl) <| kmv rfl <| kmv rfl <| kln rfl <| K.leq rfl rfl (decide_eq_true (by rw [hlen]; omega)) .plain <| RunK.nil <| LWP.condT rfl ?_; refine LWP.skip ?_; refine LWP.seq <| LWP.block <| LWP.seq <| LWP.seq <| LWP.region (by kernel_rfl) <| kmv rfl <| kmv rfl <| kln rfl <| keq rfl rfl (r := true) (beq_iff_eq.2 (by rw [hlen])) <| kmv rfl <| RunK.passed rfl rfl rfl <| RunK.passed rfl rfl rfl <| RunK.passed rfl rfl rfl <| RunK.passed rfl rfl rfl ?_; refine kpt rfl rfl <| RunK.nil <| LWP.condT rfl ?_; refine LWP.seq <| LWP.seq <| LWP.region (by kernel_rfl) <| kmv rfl <| klt rfl rfl (decide_eq_true hn1) <| kmv rfl <| RunK.passed rfl rfl rfl <| RunK.passed rfl rfl rfl <| kpt rfl rfl <| kmv rfl <| RunK.passed rfl rfl rfl <| RunK.passed rfl rfl rfl <| RunK.passed rfl rfl rfl <| RunK.passed rfl rfl rfl ?_; refine RunK.passedU rfl rfl <| RunK.passedU rfl rfl <| RunK.passedU rfl rfl <| RunK.passedU rfl rfl <| RunK.passedU rfl rfl <| RunK.passedU rfl rfl <| RunK.passedU rfl rfl <| RunK.passedU rfl rfl <| RunK.passed rfl rfl rfl <| kpt rfl rfl <| RunK.nil <| LWP.condT rfl ?_; refine LWP.seq <| LWP.region (by kernel_rfl) <| kas rfl <| kas rfl <| RunK.nil <| LWP.ret ?_)
        exact ⟨[_, _], ⟨rfl, rfl, trivial⟩, rfl⟩
      by_cases hn2 : 24 < n
      · rw [parT_no (parse_no2 h45 hrun (sep_no (.inr (.inl hn2))))]
        (refine LWP.seq <| LWP.seq <| LWP.region (by kernel_rfl) <| kmv rfl <| kmv rfl <| kln rfl <| K.leq rfl rfl (decide_eq_true (by rw [hlen]; omega)) .plain <| RunK.nil <| LWP.condT rfl ?_; refine LWP.skip ?_; refine LWP.seq <| LWP.block <| LWP.seq <| LWP.seq <| LWP.region (by kernel_rfl) <| kmv rfl <| kmv rfl <| kln rfl <| keq rfl rfl (r := true) (beq_iff_eq.2 (by rw [hlen])) <| kmv rfl <| RunK.passed rfl rfl rfl <| RunK.passed rfl rfl rfl <| RunK.passed rfl rfl rfl <| RunK.passed rfl rfl rfl ?_; refine kpt rfl rfl <| RunK.nil <| LWP.condT rfl ?_; refine LWP.seq <| LWP.seq <| LWP.region (by kernel_rfl) <| kmv rfl <| klt rfl rfl (decide_eq_false hn1) <| kmv rfl <| gmv rfl rfl rfl <| K.gtr rfl rfl (decide_eq_true hn2) (.taken rfl rfl) ?_; refine kpf rfl rfl <| kmv rfl <| RunK.passed rfl rfl rfl <| RunK.passed rfl rfl rfl <| RunK.passed rfl rfl rfl <| RunK.passed rfl rfl rfl <| RunK.passedU rfl rfl <| RunK.passedU rfl rfl <| RunK.passedU rfl rfl <| RunK.passedU rfl rfl <| RunK.passedU rfl rfl <| RunK.passedU rfl rfl <| RunK.passedU rfl rfl <| RunK.passedU rfl rfl ?_; refine RunK.passed rfl rfl rfl <| kpt rfl rfl <| RunK.nil <| LWP.condT rfl ?_; refine LWP.seq <| LWP.region (by kernel_rfl) <| kas rfl <| kas rfl <| RunK.nil <| LWP.ret ?_)
        exact ⟨[_, _], ⟨rfl, rfl, trivial⟩, rfl⟩
      cases hl : ids.getLast? with
      | none =>
        obtain rfl : ids = [] := List.getLast?_eq_none_iff.1 hl
        (refine LWP.seq <| LWP.seq <| LWP.region (by kernel_rfl) <| kmv rfl <| kmv rfl <| kln rfl <| K.leq rfl rfl (decide_eq_true (by rw [hlen]; omega)) .plain <| RunK.nil <| LWP.condT rfl ?_; refine LWP.skip ?_; refine LWP.seq <| LWP.block <| LWP.seq <| LWP.seq <| LWP.region (by kernel_rfl) <| kmv rfl <| kmv rfl <| kln rfl <| keq rfl rfl (r := true) (beq_iff_eq.2 (by rw [hlen])) <| kmv rfl <| RunK.passed rfl rfl rfl <| RunK.passed rfl rfl rfl <| RunK.passed rfl rfl rfl <| RunK.passed rfl rfl rfl ?_; refine kpt rfl rfl <| RunK.nil <| LWP.condT rfl ?_; refine LWP.seq <| LWP.seq <| LWP.region (by kernel_rfl) <| kmv rfl <| klt rfl rfl (decide_eq_false hn1) <| kmv rfl <| gmv rfl rfl rfl <| K.gtr rfl rfl (decide_eq_false hn2) (.taken rfl rfl) ?_; refine kpf rfl rfl <| kmv rfl <| gmv rfl rfl rfl <| K.lenSlc rfl SliceT.h rfl (.taken rfl rfl) ?_; refine K.gtr rfl rfl (r := false) rfl (.taken rfl rfl) ?_; refine gmv rfl rfl rfl <| RunK.passed rfl rfl rfl <| RunK.passed rfl rfl rfl <| RunK.passed rfl rfl rfl <| RunK.passed rfl rfl rfl <| RunK.passed rfl rfl rfl <| RunK.passed rfl rfl rfl <| RunK.passed rfl rfl rfl <| RunK.passed rfl rfl rfl <| K.pickF rfl rfl (.taken rfl rfl) ?_; refine kpf rfl rfl <| RunK.nil <| LWP.condF rfl ?_; refine LWP.skip ?_; refine LWP.seq <| LWP.region (by kernel_rfl) <| kmv rfl <| kmv rfl <| K.buildSlc (zs := [.int .i64 0]) (sz := 1) (e := 3) (cs' := [.val (.int .i64 n)]) (by kernel_rfl) rfl rfl rfl rfl rfl rfl .plain <| K.appendSlc (by_ := 8) (e2 := 3) (l2 := [.val (.int .i64 n)]) (nl := (([] : List Int) ++ [n]).length) (nc := (nuV (([] : List Int) ++ [n])).map .val) rfl rfl (hrl []) rfl rfl (Nat.le_refl _) rfl rfl (by kernel_rfl) (by kernel_rfl) (by omega) (by omega) rfl hnl hnc .plain <| kas rfl <| RunK.nil <| LWP.seq <| LWP.region (by kernel_rfl) <| kas rfl <| RunK.nil <| LWP.exit <| LWP.region (by kernel_rfl) ?_; refine kmv rfl <| kad rfl rfl (wrap_i64 (by omega)) <| kas rfl <| RunK.nil ?_)
        exact ⟨_, pzSt s (s.length + 1 : Nat) (([] : List Int) ++ [n]) (-1) true X, by omega, Le.ofR [(500, 50)] (by exact ⟨rfl, rfl, rfl, rfl, trivial⟩) (by repeat' (first | exact trivial | refine And.intro ⟨_, rfl, ?_⟩ ?_ | refine And.intro ⟨_, rfl⟩ ?_ | rfl | exact Box.ren_bytes _ _ _ _ | exact Box.ren_vals _ _ _ _ | exact Box.ren_mid rfl)) (by exact rfl) (by exact rfl) (by repeat' (first | refine all_cons_true ?_ ?_ | rfl | exact bytes_inUse | exact vals_inUse | exact mid_inUse rfl)) (by exact rfl) (by exact rfl), s.length + 1, ([] : List Int) ++ [n], -1, true, by omega, rfl, .inr ⟨rfl, _, hrun, sep_yes hn1 hn2 (fun y h => by cases h)⟩, rfl⟩
      | some y =>
        have hlast := nu_at (last_at hl)
        have hpos : 0 < ids.length := List.length_pos_iff.2 (fun e => by rw [e] at hl; cases hl)
        have hsub : IntKind.i64.wrap ((ids.length : Int) - 1) = ((ids.length - 1 : Nat) : Int) := by
          refine (wrap_i64 ⟨?_, ?_⟩).trans ?_ <;> omega
        have hix : 0 + Int.toNat (((ids.length - 1 : Nat) : Int)) * 1 = (ids.length - 1) * 1 := by simp
        by_cases hyn : n ≤ y
        · rw [parT_no (parse_no2 h45 hrun (sep_no (.inr (.inr ⟨y, hl, hyn⟩))))]
          (refine LWP.seq <| LWP.seq <| LWP.region (by kernel_rfl) <| kmv rfl <| kmv rfl <| kln rfl <| K.leq rfl rfl (decide_eq_true (by rw [hlen]; omega)) .plain <| RunK.nil <| LWP.condT rfl ?_; refine LWP.skip ?_; refine LWP.seq <| LWP.block <| LWP.seq <| LWP.seq <| LWP.region (by kernel_rfl) <| kmv rfl <| kmv rfl <| kln rfl <| keq rfl rfl (r := true) (beq_iff_eq.2 (by rw [hlen])) <| kmv rfl <| RunK.passed rfl rfl rfl <| RunK.passed rfl rfl rfl <| RunK.passed rfl rfl rfl <| RunK.passed rfl rfl rfl ?_; refine kpt rfl rfl <| RunK.nil <| LWP.condT rfl ?_; refine LWP.seq <| LWP.seq <| LWP.region (by kernel_rfl) <| kmv rfl <| klt rfl rfl (decide_eq_false hn1) <| kmv rfl <| gmv rfl rfl rfl <| K.gtr rfl rfl (decide_eq_false hn2) (.taken rfl rfl) ?_; refine kpf rfl rfl <| kmv rfl <| gmv rfl rfl rfl <| K.lenSlc rfl SliceT.h rfl (.taken rfl rfl) ?_; refine K.gtr rfl rfl (decide_eq_true (by omega)) (.taken rfl rfl) ?_; refine gmv rfl rfl rfl <| gmv rfl rfl rfl <| gmv rfl rfl rfl <| K.lenSlc rfl SliceT.h rfl (.taken rfl rfl) ?_; refine K.sub rfl rfl hsub (.taken rfl rfl) ?_; refine K.indexSlc rfl rfl (by omega) hix (.taken rfl rfl) ?_; refine K.loadOne rfl rfl hlast (.taken rfl rfl) ?_; refine gmv rfl rfl rfl <| K.geq rfl rfl (decide_eq_true (by omega)) (.taken rfl rfl) ?_; refine K.pickT rfl rfl (.taken rfl rfl) ?_; refine kpf rfl rfl <| RunK.nil <| LWP.condT rfl ?_; refine LWP.seq <| LWP.region (by kernel_rfl) <| kas rfl <| kas rfl <| RunK.nil <| LWP.ret ?_)
          exact ⟨[_, _], ⟨rfl, rfl, trivial⟩, rfl⟩
        · (refine LWP.seq <| LWP.seq <| LWP.region (by kernel_rfl) <| kmv rfl <| kmv rfl <| kln rfl <| K.leq rfl rfl (decide_eq_true (by rw [hlen]; omega)) .plain <| RunK.nil <| LWP.condT rfl ?_; refine LWP.skip ?_; refine LWP.seq <| LWP.block <| LWP.seq <| LWP.seq <| LWP.region (by kernel_rfl) <| kmv rfl <| kmv rfl <| kln rfl <| keq rfl rfl (r := true) (beq_iff_eq.2 (by rw [hlen])) <| kmv rfl <| RunK.passed rfl rfl rfl <| RunK.passed rfl rfl rfl <| RunK.passed rfl rfl rfl <| RunK.passed rfl rfl rfl ?_; refine kpt rfl rfl <| RunK.nil <| LWP.condT rfl ?_; refine LWP.seq <| LWP.seq <| LWP.region (by kernel_rfl) <| kmv rfl <| klt rfl rfl (decide_eq_false hn1) <| kmv rfl <| gmv rfl rfl rfl <| K.gtr rfl rfl (decide_eq_false hn2) (.taken rfl rfl) ?_; refine kpf rfl rfl <| kmv rfl <| gmv rfl rfl rfl <| K.lenSlc rfl SliceT.h rfl (.taken rfl rfl) ?_; refine K.gtr rfl rfl (decide_eq_true (by omega)) (.taken rfl rfl) ?_; refine gmv rfl rfl rfl <| gmv rfl rfl rfl <| gmv rfl rfl rfl <| K.lenSlc rfl SliceT.h rfl (.taken rfl rfl) ?_; refine K.sub rfl rfl hsub (.taken rfl rfl) ?_; refine K.indexSlc rfl rfl (by omega) hix (.taken rfl rfl) ?_; refine K.loadOne rfl rfl hlast (.taken rfl rfl) ?_; refine gmv rfl rfl rfl <| K.geq rfl rfl (decide_eq_false (by omega)) (.taken rfl rfl) ?_; refine K.pickT rfl rfl (.taken rfl rfl) ?_; refine kpf rfl rfl <| RunK.nil <| LWP.condF rfl ?_; refine LWP.skip ?_; refine LWP.seq <| LWP.region (by kernel_rfl) <| kmv rfl <| kmv rfl <| K.buildSlc (zs := [.int .i64 0]) (sz := 1) (e := 3) (cs' := [.val (.int .i64 n)]) (by kernel_rfl) rfl rfl rfl rfl rfl rfl .plain <| K.appendSlc (by_ := 8) (e2 := 3) (l2 := [.val (.int .i64 n)]) (nl := (ids ++ [n]).length) (nc := (nuV (ids ++ [n])).map .val) rfl rfl (hrl ids) rfl rfl (Nat.le_refl _) rfl rfl (by kernel_rfl) (by kernel_rfl) (by omega) (by omega) rfl hnl hnc .plain <| kas rfl <| RunK.nil <| LWP.seq <| LWP.region (by kernel_rfl) <| kas rfl <| RunK.nil <| LWP.exit <| LWP.region (by kernel_rfl) ?_; refine kmv rfl <| kad rfl rfl (wrap_i64 (by omega)) <| kas rfl <| RunK.nil ?_)
          exact ⟨_, pzSt s (s.length + 1 : Nat) (ids ++ [n]) (-1) true X, by omega, Le.ofR [(500, 50)] (by exact ⟨rfl, rfl, rfl, rfl, trivial⟩) (by repeat' (first | exact trivial | refine And.intro ⟨_, rfl, ?_⟩ ?_ | refine And.intro ⟨_, rfl⟩ ?_ | rfl | exact Box.ren_bytes _ _ _ _ | exact Box.ren_vals _ _ _ _ | exact Box.ren_mid rfl)) (by exact rfl) (by exact rfl) (by repeat' (first | refine all_cons_true ?_ ?_ | rfl | exact bytes_inUse | exact vals_inUse | exact mid_inUse rfl)) (by exact rfl) (by exact rfl), s.length + 1, ids ++ [n], -1, true, by omega, rfl, .inr ⟨rfl, _, hrun, sep_yes hn1 hn2 (fun y2 h2 => by rw [hl] at h2; cases h2; exact hyn)⟩, rfl⟩
    have hlt : i < s.length := by omega
    obtain ⟨c, hc⟩ : ∃ c, s[i]? = some c := ⟨_, List.getElem?_eq_getElem hlt⟩
    have hcs : (⟨s.toArray⟩ : ByteArray)[Int.toNat (i : Int)]? = some c := str_at hc
    by_cases h43 : c = 43
    · subst h43
      by_cases hn1 : n < 1
      · rw [parT_no (parse_no1 h45 (run_fail hrun hc ((ch_sep _).trans (sep_no (.inl hn1)))))]
        (refine LWP.seq <| LWP.seq <| LWP.region (by kernel_rfl) <| kmv rfl <| kmv rfl <| kln rfl <| K.leq rfl rfl (decide_eq_true (by rw [hlen]; omega)) .plain <| RunK.nil <| LWP.condT rfl ?_; refine LWP.skip ?_; refine LWP.seq <| LWP.block <| LWP.seq <| LWP.seq <| LWP.region (by kernel_rfl) <| kmv rfl <| kmv rfl <| kln rfl <| keq rfl rfl (r := false) (beq_eq_false_iff_ne.2 (by rw [hlen]; omega)) <| kmv rfl <| gmv rfl rfl rfl <| gmv rfl rfl rfl <| K.indexStr rfl rfl (by omega) hcs (.taken rfl rfl) ?_; refine K.eql rfl rfl (r := true) rfl (.taken rfl rfl) ?_; refine kpf rfl rfl <| RunK.nil <| LWP.condT rfl ?_; refine LWP.seq <| LWP.seq <| LWP.region (by kernel_rfl) <| kmv rfl <| klt rfl rfl (decide_eq_true hn1) <| kmv rfl <| RunK.passed rfl rfl rfl <| RunK.passed rfl rfl rfl <| kpt rfl rfl <| kmv rfl <| RunK.passed rfl rfl rfl <| RunK.passed rfl rfl rfl <| RunK.passed rfl rfl rfl <| RunK.passed rfl rfl rfl ?_; refine RunK.passedU rfl rfl <| RunK.passedU rfl rfl <| RunK.passedU rfl rfl <| RunK.passedU rfl rfl <| RunK.passedU rfl rfl <| RunK.passedU rfl rfl <| RunK.passedU rfl rfl <| RunK.passedU rfl rfl <| RunK.passed rfl rfl rfl <| kpt rfl rfl <| RunK.nil <| LWP.condT rfl ?_; refine LWP.seq <| LWP.region (by kernel_rfl) <| kas rfl <| kas rfl <| RunK.nil <| LWP.ret ?_)
        exact ⟨[_, _], ⟨rfl, rfl, trivial⟩, rfl⟩
      by_cases hn2 : 24 < n
      · rw [parT_no (parse_no1 h45 (run_fail hrun hc ((ch_sep _).trans (sep_no (.inr (.inl hn2))))))]
        (refine LWP.seq <| LWP.seq <| LWP.region (by kernel_rfl) <| kmv rfl <| kmv rfl <| kln rfl <| K.leq rfl rfl (decide_eq_true (by rw [hlen]; omega)) .plain <| RunK.nil <| LWP.condT rfl ?_; refine LWP.skip ?_; refine LWP.seq <| LWP.block <| LWP.seq <| LWP.seq <| LWP.region (by kernel_rfl) <| kmv rfl <| kmv rfl <| kln rfl <| keq rfl rfl (r := false) (beq_eq_false_iff_ne.2 (by rw [hlen]; omega)) <| kmv rfl <| gmv rfl rfl rfl <| gmv rfl rfl rfl <| K.indexStr rfl rfl (by omega) hcs (.taken rfl rfl) ?_; refine K.eql rfl rfl (r := true) rfl (.taken rfl rfl) ?_; refine kpf rfl rfl <| RunK.nil <| LWP.condT rfl ?_; refine LWP.seq <| LWP.seq <| LWP.region (by kernel_rfl) <| kmv rfl <| klt rfl rfl (decide_eq_false hn1) <| kmv rfl <| gmv rfl rfl rfl <| K.gtr rfl rfl (decide_eq_true hn2) (.taken rfl rfl) ?_; refine kpf rfl rfl <| kmv rfl <| RunK.passed rfl rfl rfl <| RunK.passed rfl rfl rfl <| RunK.passed rfl rfl rfl <| RunK.passed rfl rfl rfl <| RunK.passedU rfl rfl <| RunK.passedU rfl rfl <| RunK.passedU rfl rfl <| RunK.passedU rfl rfl <| RunK.passedU rfl rfl <| RunK.passedU rfl rfl <| RunK.passedU rfl rfl <| RunK.passedU rfl rfl ?_; refine RunK.passed rfl rfl rfl <| kpt rfl rfl <| RunK.nil <| LWP.condT rfl ?_; refine LWP.seq <| LWP.region (by kernel_rfl) <| kas rfl <| kas rfl <| RunK.nil <| LWP.ret ?_)
        exact ⟨[_, _], ⟨rfl, rfl, trivial⟩, rfl⟩
      cases hl : ids.getLast? with
      | none =>
        obtain rfl : ids = [] := List.getLast?_eq_none_iff.1 hl
        (refine LWP.seq <| LWP.seq <| LWP.region (by kernel_rfl) <| kmv rfl <| kmv rfl <| kln rfl <| K.leq rfl rfl (decide_eq_true (by rw [hlen]; omega)) .plain <| RunK.nil <| LWP.condT rfl ?_; refine LWP.skip ?_; refine LWP.seq <| LWP.block <| LWP.seq <| LWP.seq <| LWP.region (by kernel_rfl) <| kmv rfl <| kmv rfl <| kln rfl <| keq rfl rfl (r := false) (beq_eq_false_iff_ne.2 (by rw [hlen]; omega)) <| kmv rfl <| gmv rfl rfl rfl <| gmv rfl rfl rfl <| K.indexStr rfl rfl (by omega) hcs (.taken rfl rfl) ?_; refine K.eql rfl rfl (r := true) rfl (.taken rfl rfl) ?_; refine kpf rfl rfl <| RunK.nil <| LWP.condT rfl ?_; refine LWP.seq <| LWP.seq <| LWP.region (by kernel_rfl) <| kmv rfl <| klt rfl rfl (decide_eq_false hn1) <| kmv rfl <| gmv rfl rfl rfl <| K.gtr rfl rfl (decide_eq_false hn2) (.taken rfl rfl) ?_; refine kpf rfl rfl <| kmv rfl <| gmv rfl rfl rfl <| K.lenSlc rfl SliceT.h rfl (.taken rfl rfl) ?_; refine K.gtr rfl rfl (r := false) rfl (.taken rfl rfl) ?_; refine gmv rfl rfl rfl <| RunK.passed rfl rfl rfl <| RunK.passed rfl rfl rfl <| RunK.passed rfl rfl rfl <| RunK.passed rfl rfl rfl <| RunK.passed rfl rfl rfl <| RunK.passed rfl rfl rfl <| RunK.passed rfl rfl rfl <| RunK.passed rfl rfl rfl <| K.pickF rfl rfl (.taken rfl rfl) ?_; refine kpf rfl rfl <| RunK.nil <| LWP.condF rfl ?_; refine LWP.skip ?_; refine LWP.seq <| LWP.region (by kernel_rfl) <| kmv rfl <| kmv rfl <| K.buildSlc (zs := [.int .i64 0]) (sz := 1) (e := 3) (cs' := [.val (.int .i64 n)]) (by kernel_rfl) rfl rfl rfl rfl rfl rfl .plain <| K.appendSlc (by_ := 8) (e2 := 3) (l2 := [.val (.int .i64 n)]) (nl := (([] : List Int) ++ [n]).length) (nc := (nuV (([] : List Int) ++ [n])).map .val) rfl rfl (hrl []) rfl rfl (Nat.le_refl _) rfl rfl (by kernel_rfl) (by kernel_rfl) (by omega) (by omega) rfl hnl hnc .plain <| kas rfl <| RunK.nil <| LWP.seq <| LWP.region (by kernel_rfl) <| kas rfl <| RunK.nil <| LWP.exit <| LWP.region (by kernel_rfl) ?_; refine kmv rfl <| kad rfl rfl (wrap_i64 (by omega)) <| kas rfl <| RunK.nil ?_)
        exact ⟨_, pzSt s (i + 1 : Nat) (([] : List Int) ++ [n]) (-1) true X, by omega, Le.ofR [(500, 50)] (by exact ⟨rfl, rfl, rfl, rfl, trivial⟩) (by repeat' (first | exact trivial | refine And.intro ⟨_, rfl, ?_⟩ ?_ | refine And.intro ⟨_, rfl⟩ ?_ | rfl | exact Box.ren_bytes _ _ _ _ | exact Box.ren_vals _ _ _ _ | exact Box.ren_mid rfl)) (by exact rfl) (by exact rfl) (by repeat' (first | refine all_cons_true ?_ ?_ | rfl | exact bytes_inUse | exact vals_inUse | exact mid_inUse rfl)) (by exact rfl) (by exact rfl), i + 1, ([] : List Int) ++ [n], -1, true, by omega, rfl, .inl ⟨by omega, run_step hrun hc ((ch_sep _).trans (sep_yes hn1 hn2 (fun y h => by cases h)))⟩, rfl⟩
      | some y =>
        have hlast := nu_at (last_at hl)
        have hpos : 0 < ids.length := List.length_pos_iff.2 (fun e => by rw [e] at hl; cases hl)
        have hsub : IntKind.i64.wrap ((ids.length : Int) - 1) = ((ids.length - 1 : Nat) : Int) := by
          refine (wrap_i64 ⟨?_, ?_⟩).trans ?_ <;> omega
        have hix : 0 + Int.toNat (((ids.length - 1 : Nat) : Int)) * 1 = (ids.length - 1) * 1 := by simp
        by_cases hyn : n ≤ y
        · rw [parT_no (parse_no1 h45 (run_fail hrun hc ((ch_sep _).trans (sep_no (.inr (.inr ⟨y, hl, hyn⟩))))))]
          (refine LWP.seq <| LWP.seq <| LWP.region (by kernel_rfl) <| kmv rfl <| kmv rfl <| kln rfl <| K.leq rfl rfl (decide_eq_true (by rw [hlen]; omega)) .plain <| RunK.nil <| LWP.condT rfl ?_; refine LWP.skip ?_; refine LWP.seq <| LWP.block <| LWP.seq <| LWP.seq <| LWP.region (by kernel_rfl) <| kmv rfl <| kmv rfl <| kln rfl <| keq rfl rfl (r := false) (beq_eq_false_iff_ne.2 (by rw [hlen]; omega)) <| kmv rfl <| gmv rfl rfl rfl <| gmv rfl rfl rfl <| K.indexStr rfl rfl (by omega) hcs (.taken rfl rfl) ?_; refine K.eql rfl rfl (r := true) rfl (.taken rfl rfl) ?_; refine kpf rfl rfl <| RunK.nil <| LWP.condT rfl ?_; refine LWP.seq <| LWP.seq <| LWP.region (by kernel_rfl) <| kmv rfl <| klt rfl rfl (decide_eq_false hn1) <| kmv rfl <| gmv rfl rfl rfl <| K.gtr rfl rfl (decide_eq_false hn2) (.taken rfl rfl) ?_; refine kpf rfl rfl <| kmv rfl <| gmv rfl rfl rfl <| K.lenSlc rfl SliceT.h rfl (.taken rfl rfl) ?_; refine K.gtr rfl rfl (decide_eq_true (by omega)) (.taken rfl rfl) ?_; refine gmv rfl rfl rfl <| gmv rfl rfl rfl <| gmv rfl rfl rfl <| K.lenSlc rfl SliceT.h rfl (.taken rfl rfl) ?_; refine K.sub rfl rfl hsub (.taken rfl rfl) ?_; refine K.indexSlc rfl rfl (by omega) hix (.taken rfl rfl) ?_; refine K.loadOne rfl rfl hlast (.taken rfl rfl) ?_; refine gmv rfl rfl rfl <| K.geq rfl rfl (decide_eq_true (by omega)) (.taken rfl rfl) ?_; refine K.pickT rfl rfl (.taken rfl rfl) ?_; refine kpf rfl rfl <| RunK.nil <| LWP.condT rfl ?_; refine LWP.seq <| LWP.region (by kernel_rfl) <| kas rfl <| kas rfl <| RunK.nil <| LWP.ret ?_)
          exact ⟨[_, _], ⟨rfl, rfl, trivial⟩, rfl⟩
        · (refine LWP.seq <| LWP.seq <| LWP.region (by kernel_rfl) <| kmv rfl <| kmv rfl <| kln rfl <| K.leq rfl rfl (decide_eq_true (by rw [hlen]; omega)) .plain <| RunK.nil <| LWP.condT rfl ?_; refine LWP.skip ?_; refine LWP.seq <| LWP.block <| LWP.seq <| LWP.seq <| LWP.region (by kernel_rfl) <| kmv rfl <| kmv rfl <| kln rfl <| keq rfl rfl (r := false) (beq_eq_false_iff_ne.2 (by rw [hlen]; omega)) <| kmv rfl <| gmv rfl rfl rfl <| gmv rfl rfl rfl <| K.indexStr rfl rfl (by omega) hcs (.taken rfl rfl) ?_; refine K.eql rfl rfl (r := true) rfl (.taken rfl rfl) ?_; refine kpf rfl rfl <| RunK.nil <| LWP.condT rfl ?_; refine LWP.seq <| LWP.seq <| LWP.region (by kernel_rfl) <| kmv rfl <| klt rfl rfl (decide_eq_false hn1) <| kmv rfl <| gmv rfl rfl rfl <| K.gtr rfl rfl (decide_eq_false hn2) (.taken rfl rfl) ?_; refine kpf rfl rfl <| kmv rfl <| gmv rfl rfl rfl <| K.lenSlc rfl SliceT.h rfl (.taken rfl rfl) ?_; refine K.gtr rfl rfl (decide_eq_true (by omega)) (.taken rfl rfl) ?_; refine gmv rfl rfl rfl <| gmv rfl rfl rfl <| gmv rfl rfl rfl <| K.lenSlc rfl SliceT.h rfl (.taken rfl rfl) ?_; refine K.sub rfl rfl hsub (.taken rfl rfl) ?_; refine K.indexSlc rfl rfl (by omega) hix (.taken rfl rfl) ?_; refine K.loadOne rfl rfl hlast (.taken rfl rfl) ?_; refine gmv rfl rfl rfl <| K.geq rfl rfl (decide_eq_false (by omega)) (.taken rfl rfl) ?_; refine K.pickT rfl rfl (.taken rfl rfl) ?_; refine kpf rfl rfl <| RunK.nil <| LWP.condF rfl ?_; refine LWP.skip ?_; refine LWP.seq <| LWP.region (by kernel_rfl) <| kmv rfl <| kmv rfl <| K.buildSlc (zs := [.int .i64 0]) (sz := 1) (e := 3) (cs' := [.val (.int .i64 n)]) (by kernel_rfl) rfl rfl rfl rfl rfl rfl .plain <| K.appendSlc (by_ := 8) (e2 := 3) (l2 := [.val (.int .i64 n)]) (nl := (ids ++ [n]).length) (nc := (nuV (ids ++ [n])).map .val) rfl rfl (hrl ids) rfl rfl (Nat.le_refl _) rfl rfl (by kernel_rfl) (by kernel_rfl) (by omega) (by omega) rfl hnl hnc .plain <| kas rfl <| RunK.nil <| LWP.seq <| LWP.region (by kernel_rfl) <| kas rfl <| RunK.nil <| LWP.exit <| LWP.region (by kernel_rfl) ?_; refine kmv rfl <| kad rfl rfl (wrap_i64 (by omega)) <| kas rfl <| RunK.nil ?_)
          exact ⟨_, pzSt s (i + 1 : Nat) (ids ++ [n]) (-1) true X, by omega, Le.ofR [(500, 50)] (by exact ⟨rfl, rfl, rfl, rfl, trivial⟩) (by repeat' (first | exact trivial | refine And.intro ⟨_, rfl, ?_⟩ ?_ | refine And.intro ⟨_, rfl⟩ ?_ | rfl | exact Box.ren_bytes _ _ _ _ | exact Box.ren_vals _ _ _ _ | exact Box.ren_mid rfl)) (by exact rfl) (by exact rfl) (by repeat' (first | refine all_cons_true ?_ ?_ | rfl | exact bytes_inUse | exact vals_inUse | exact mid_inUse rfl)) (by exact rfl) (by exact rfl), i + 1, ids ++ [n], -1, true, by omega, rfl, .inl ⟨by omega, run_step hrun hc ((ch_sep _).trans (sep_yes hn1 hn2 (fun y2 h2 => by rw [hl] at h2; cases h2; exact hyn)))⟩, rfl⟩
    have h43n : (((c.toNat : Nat) : Int) == 43) = false := beq_eq_false_iff_ne.2 (fun e => h43 (by
      have : c.toNat = 43 := by omega
      rw [← UInt8.ofNat_toNat (x := c), this]; rfl))
    have hc256 : c.toNat < 256 := c.toNat_lt
    by_cases hd1 : c.toNat < 48
    · rw [parT_no (parse_no1 h45 (run_fail hrun hc (ch_no h43 (.inl hd1))))]
      (refine LWP.seq <| LWP.seq <| LWP.region (by kernel_rfl) <| kmv rfl <| kmv rfl <| kln rfl <| K.leq rfl rfl (decide_eq_true (by rw [hlen]; omega)) .plain <| RunK.nil <| LWP.condT rfl ?_; refine LWP.skip ?_; refine LWP.seq <| LWP.block <| LWP.seq <| LWP.seq <| LWP.region (by kernel_rfl) <| kmv rfl <| kmv rfl <| kln rfl <| keq rfl rfl (r := false) (beq_eq_false_iff_ne.2 (by rw [hlen]; omega)) <| kmv rfl <| gmv rfl rfl rfl <| gmv rfl rfl rfl <| K.indexStr rfl rfl (by omega) hcs (.taken rfl rfl) ?_; refine K.eql rfl rfl h43n (.taken rfl rfl) ?_; refine kpf rfl rfl <| RunK.nil <| LWP.condF rfl ?_; refine LWP.skip ?_; refine LWP.seq <| LWP.seq <| LWP.region (by kernel_rfl) <| kmv rfl <| kmv rfl <| K.indexStr rfl rfl (by omega) hcs .plain <| klt rfl rfl (decide_eq_true (by omega)) <| kmv rfl <| RunK.passed rfl rfl rfl <| RunK.passed rfl rfl rfl <| RunK.passed rfl rfl rfl <| RunK.passed rfl rfl rfl <| kpt rfl rfl <| kmv rfl ?_; refine RunK.passed rfl rfl rfl <| RunK.passed rfl rfl rfl <| kpt rfl rfl <| kmv rfl <| RunK.passed rfl rfl rfl <| RunK.passed rfl rfl rfl <| kpt rfl rfl <| kmv rfl <| RunK.passed rfl rfl rfl <| RunK.passed rfl rfl rfl <| RunK.passed rfl rfl rfl <| RunK.passedU rfl rfl <| RunK.passedU rfl rfl <| RunK.passedU rfl rfl ?_; refine RunK.passedU rfl rfl <| RunK.passed rfl rfl rfl <| kpt rfl rfl <| RunK.nil <| LWP.condT rfl ?_; refine LWP.seq <| LWP.region (by kernel_rfl) <| kas rfl <| kas rfl <| RunK.nil <| LWP.ret ?_)
      exact ⟨[_, _], ⟨rfl, rfl, trivial⟩, rfl⟩
    by_cases hd2 : 57 < c.toNat
    · rw [parT_no (parse_no1 h45 (run_fail hrun hc (ch_no h43 (.inr (.inl hd2)))))]
      (refine LWP.seq <| LWP.seq <| LWP.region (by kernel_rfl) <| kmv rfl <| kmv rfl <| kln rfl <| K.leq rfl rfl (decide_eq_true (by rw [hlen]; omega)) .plain <| RunK.nil <| LWP.condT rfl ?_; refine LWP.skip ?_; refine LWP.seq <| LWP.block <| LWP.seq <| LWP.seq <| LWP.region (by kernel_rfl) <| kmv rfl <| kmv rfl <| kln rfl <| keq rfl rfl (r := false) (beq_eq_false_iff_ne.2 (by rw [hlen]; omega)) <| kmv rfl <| gmv rfl rfl rfl <| gmv rfl rfl rfl <| K.indexStr rfl rfl (by omega) hcs (.taken rfl rfl) ?_; refine K.eql rfl rfl h43n (.taken rfl rfl) ?_; refine kpf rfl rfl <| RunK.nil <| LWP.condF rfl ?_; refine LWP.skip ?_; refine LWP.seq <| LWP.seq <| LWP.region (by kernel_rfl) <| kmv rfl <| kmv rfl <| K.indexStr rfl rfl (by omega) hcs .plain <| klt rfl rfl (decide_eq_false (by omega)) <| kmv rfl <| gmv rfl rfl rfl <| gmv rfl rfl rfl <| K.indexStr rfl rfl (by omega) hcs (.taken rfl rfl) ?_; refine K.gtr rfl rfl (decide_eq_true (by omega)) (.taken rfl rfl) ?_; refine kpf rfl rfl <| kmv rfl <| RunK.passed rfl rfl rfl <| RunK.passed rfl rfl rfl <| kpt rfl rfl <| kmv rfl <| RunK.passed rfl rfl rfl <| RunK.passed rfl rfl rfl <| kpt rfl rfl <| kmv rfl <| RunK.passed rfl rfl rfl <| RunK.passed rfl rfl rfl <| RunK.passed rfl rfl rfl <| RunK.passedU rfl rfl ?_; refine RunK.passedU rfl rfl <| RunK.passedU rfl rfl <| RunK.passedU rfl rfl <| RunK.passed rfl rfl rfl <| kpt rfl rfl <| RunK.nil <| LWP.condT rfl ?_; refine LWP.seq <| LWP.region (by kernel_rfl) <| kas rfl <| kas rfl <| RunK.nil <| LWP.ret ?_)
      exact ⟨[_, _], ⟨rfl, rfl, trivial⟩, rfl⟩
    by_cases hd4 : 99 < n
    · rw [parT_no (parse_no1 h45 (run_fail hrun hc (ch_no h43 (.inr (.inr (.inr (.inl hd4)))))))]
      (refine LWP.seq <| LWP.seq <| LWP.region (by kernel_rfl) <| kmv rfl <| kmv rfl <| kln rfl <| K.leq rfl rfl (decide_eq_true (by rw [hlen]; omega)) .plain <| RunK.nil <| LWP.condT rfl ?_; refine LWP.skip ?_; refine LWP.seq <| LWP.block <| LWP.seq <| LWP.seq <| LWP.region (by kernel_rfl) <| kmv rfl <| kmv rfl <| kln rfl <| keq rfl rfl (r := false) (beq_eq_false_iff_ne.2 (by rw [hlen]; omega)) <| kmv rfl <| gmv rfl rfl rfl <| gmv rfl rfl rfl <| K.indexStr rfl rfl (by omega) hcs (.taken rfl rfl) ?_; refine K.eql rfl rfl h43n (.taken rfl rfl) ?_; refine kpf rfl rfl <| RunK.nil <| LWP.condF rfl ?_; refine LWP.skip ?_; refine LWP.seq <| LWP.seq <| LWP.region (by kernel_rfl) <| kmv rfl <| kmv rfl <| K.indexStr rfl rfl (by omega) hcs .plain <| klt rfl rfl (decide_eq_false (by omega)) <| kmv rfl <| gmv rfl rfl rfl <| gmv rfl rfl rfl <| K.indexStr rfl rfl (by omega) hcs (.taken rfl rfl) ?_; refine K.gtr rfl rfl (decide_eq_false (by omega)) (.taken rfl rfl) ?_; refine kpf rfl rfl <| kmv rfl <| gmv rfl rfl rfl <| K.eql rfl rfl (r := false) (beq_eq_false_iff_ne.2 (by omega)) (.taken rfl rfl) ?_; refine kpf rfl rfl <| kmv rfl <| gmv rfl rfl rfl <| K.gtr rfl rfl (decide_eq_true (by omega)) (.taken rfl rfl) ?_; refine kpf rfl rfl <| kmv rfl <| RunK.passed rfl rfl rfl <| RunK.passed rfl rfl rfl <| RunK.passed rfl rfl rfl <| RunK.passedU rfl rfl <| RunK.passedU rfl rfl <| RunK.passedU rfl rfl <| RunK.passedU rfl rfl <| RunK.passed rfl rfl rfl <| kpt rfl rfl <| RunK.nil <| LWP.condT rfl ?_; refine LWP.seq <| LWP.region (by kernel_rfl) <| kas rfl <| kas rfl <| RunK.nil <| LWP.ret ?_)
      exact ⟨[_, _], ⟨rfl, rfl, trivial⟩, rfl⟩
    rcases hnum with rfl | ⟨hn1, hn9⟩
    · by_cases hd5 : c.toNat = 48
      · rw [parT_no (parse_no1 h45 (run_fail hrun hc (ch_no h43 (.inr (.inr (.inr (.inr ⟨by decide, hd5⟩)))))))]
        (refine LWP.seq <| LWP.seq <| LWP.region (by kernel_rfl) <| kmv rfl <| kmv rfl <| kln rfl <| K.leq rfl rfl (decide_eq_true (by rw [hlen]; omega)) .plain <| RunK.nil <| LWP.condT rfl ?_; refine LWP.skip ?_; refine LWP.seq <| LWP.block <| LWP.seq <| LWP.seq <| LWP.region (by kernel_rfl) <| kmv rfl <| kmv rfl <| kln rfl <| keq rfl rfl (r := false) (beq_eq_false_iff_ne.2 (by rw [hlen]; omega)) <| kmv rfl <| gmv rfl rfl rfl <| gmv rfl rfl rfl <| K.indexStr rfl rfl (by omega) hcs (.taken rfl rfl) ?_; refine K.eql rfl rfl h43n (.taken rfl rfl) ?_; refine kpf rfl rfl <| RunK.nil <| LWP.condF rfl ?_; refine LWP.skip ?_; refine LWP.seq <| LWP.seq <| LWP.region (by kernel_rfl) <| kmv rfl <| kmv rfl <| K.indexStr rfl rfl (by omega) hcs .plain <| klt rfl rfl (decide_eq_false (by omega)) <| kmv rfl <| gmv rfl rfl rfl <| gmv rfl rfl rfl <| K.indexStr rfl rfl (by omega) hcs (.taken rfl rfl) ?_; refine K.gtr rfl rfl (decide_eq_false (by omega)) (.taken rfl rfl) ?_; refine kpf rfl rfl <| kmv rfl <| gmv rfl rfl rfl <| K.eql rfl rfl (r := false) (beq_eq_false_iff_ne.2 (by omega)) (.taken rfl rfl) ?_; refine kpf rfl rfl <| kmv rfl <| gmv rfl rfl rfl <| K.gtr rfl rfl (decide_eq_false (by omega)) (.taken rfl rfl) ?_; refine kpf rfl rfl <| kmv rfl <| gmv rfl rfl rfl <| K.lss rfl rfl (r := true) rfl (.taken rfl rfl) ?_; refine gmv rfl rfl rfl <| gmv rfl rfl rfl <| gmv rfl rfl rfl <| K.indexStr rfl rfl (by omega) hcs (.taken rfl rfl) ?_; refine K.eql rfl rfl (r := true) (beq_iff_eq.2 (by omega)) (.taken rfl rfl) ?_; refine K.pickT rfl rfl (.taken rfl rfl) ?_; refine kpf rfl rfl <| RunK.nil <| LWP.condT rfl ?_; refine LWP.seq <| LWP.region (by kernel_rfl) <| kas rfl <| kas rfl <| RunK.nil <| LWP.ret ?_)
        exact ⟨[_, _], ⟨rfl, rfl, trivial⟩, rfl⟩
      have hsb : IntKind.u8.wrap (((c.toNat : Nat) : Int) - 48) = ((c.toNat - 48 : Nat) : Int) := by
        refine (wrap_u8 ⟨?_, ?_⟩).trans ?_ <;> omega
      have hcv : IntKind.i64.wrap (((c.toNat - 48 : Nat) : Int)) = ((c.toNat - 48 : Nat) : Int) := by
        refine wrap_i64 ⟨?_, ?_⟩ <;> omega
      have hmul : IntKind.i64.wrap ((0 : Int) * 10) = (0 : Int) * 10 := by
        refine wrap_i64 ⟨?_, ?_⟩ <;> omega
      have hadd : IntKind.i64.wrap ((0 : Int) * 10 + ((c.toNat - 48 : Nat) : Int)) = (0 : Int) * 10 + (((c.toNat : Nat) : Int) - 48) := by
        refine (wrap_i64 ⟨?_, ?_⟩).trans ?_ <;> omega
      have hch := ch_yes (l := ids) (n := -1) h43 (by omega)
      rw [if_pos (by decide)] at hch
      (refine LWP.seq <| LWP.seq <| LWP.region (by kernel_rfl) <| kmv rfl <| kmv rfl <| kln rfl <| K.leq rfl rfl (decide_eq_true (by rw [hlen]; omega)) .plain <| RunK.nil <| LWP.condT rfl ?_; refine LWP.skip ?_; refine LWP.seq <| LWP.block <| LWP.seq <| LWP.seq <| LWP.region (by kernel_rfl) <| kmv rfl <| kmv rfl <| kln rfl <| keq rfl rfl (r := false) (beq_eq_false_iff_ne.2 (by rw [hlen]; omega)) <| kmv rfl <| gmv rfl rfl rfl <| gmv rfl rfl rfl <| K.indexStr rfl rfl (by omega) hcs (.taken rfl rfl) ?_; refine K.eql rfl rfl h43n (.taken rfl rfl) ?_; refine kpf rfl rfl <| RunK.nil <| LWP.condF rfl ?_; refine LWP.skip ?_; refine LWP.seq <| LWP.seq <| LWP.region (by kernel_rfl) <| kmv rfl <| kmv rfl <| K.indexStr rfl rfl (by omega) hcs .plain <| klt rfl rfl (decide_eq_false (by omega)) <| kmv rfl <| gmv rfl rfl rfl <| gmv rfl rfl rfl <| K.indexStr rfl rfl (by omega) hcs (.taken rfl rfl) ?_; refine K.gtr rfl rfl (decide_eq_false (by omega)) (.taken rfl rfl) ?_; refine kpf rfl rfl <| kmv rfl <| gmv rfl rfl rfl <| K.eql rfl rfl (r := false) (beq_eq_false_iff_ne.2 (by omega)) (.taken rfl rfl) ?_; refine kpf rfl rfl <| kmv rfl <| gmv rfl rfl rfl <| K.gtr rfl rfl (decide_eq_false (by omega)) (.taken rfl rfl) ?_; refine kpf rfl rfl <| kmv rfl <| gmv rfl rfl rfl <| K.lss rfl rfl (r := true) rfl (.taken rfl rfl) ?_; refine gmv rfl rfl rfl <| gmv rfl rfl rfl <| gmv rfl rfl rfl <| K.indexStr rfl rfl (by omega) hcs (.taken rfl rfl) ?_; refine K.eql rfl rfl (r := false) (beq_eq_false_iff_ne.2 (by omega)) (.taken rfl rfl) ?_; refine K.pickT rfl rfl (.taken rfl rfl) ?_; refine kpf rfl rfl <| RunK.nil <| LWP.condF rfl ?_; refine LWP.skip ?_; refine LWP.seq <| LWP.seq <| LWP.region (by kernel_rfl) <| kmv rfl <| klt rfl rfl (r := true) rfl <| RunK.nil <| LWP.condT rfl ?_; refine LWP.region (by kernel_rfl) <| kas rfl <| RunK.nil <| LWP.region (by kernel_rfl) <| kmv rfl <| K.mul rfl rfl hmul .plain <| kmv rfl <| kmv rfl <| K.indexStr rfl rfl (by omega) hcs .plain <| K.sub rfl rfl hsb .plain <| kcv rfl hcv ?_; refine kad rfl rfl hadd <| kas rfl <| RunK.nil <| LWP.region (by kernel_rfl) <| kmv rfl <| kad rfl rfl (wrap_i64 (by omega)) <| kas rfl <| RunK.nil ?_)
      exact ⟨_, pzSt s (i + 1 : Nat) ids (0 * 10 + (((c.toNat : Nat) : Int) - 48)) r X, by omega, Le.of (by exact ⟨rfl, rfl, rfl, rfl, trivial⟩) (by exact ⟨rfl, trivial⟩) (by exact rfl) (by exact rfl) (by repeat' (first | refine all_cons_true ?_ ?_ | rfl | exact bytes_inUse | exact vals_inUse | exact mid_inUse rfl)), i + 1, ids, _, r, by omega, rfl, .inl ⟨by omega, run_step hrun hc hch⟩, rfl⟩
    have hsb : IntKind.u8.wrap (((c.toNat : Nat) : Int) - 48) = ((c.toNat - 48 : Nat) : Int) := by
      refine (wrap_u8 ⟨?_, ?_⟩).trans ?_ <;> omega
    have hcv : IntKind.i64.wrap (((c.toNat - 48 : Nat) : Int)) = ((c.toNat - 48 : Nat) : Int) := by
      refine wrap_i64 ⟨?_, ?_⟩ <;> omega
    have hmul : IntKind.i64.wrap (n * 10) = n * 10 := by
      refine wrap_i64 ⟨?_, ?_⟩ <;> omega
    have hadd : IntKind.i64.wrap (n * 10 + ((c.toNat - 48 : Nat) : Int)) = n * 10 + (((c.toNat : Nat) : Int) - 48) := by
      refine (wrap_i64 ⟨?_, ?_⟩).trans ?_ <;> omega
    have hch := ch_yes (l := ids) (n := n) h43 (by omega)
    rw [if_neg (by omega)] at hch
    (refine LWP.seq <| LWP.seq <| LWP.region (by kernel_rfl) <| kmv rfl <| kmv rfl <| kln rfl <| K.leq rfl rfl (decide_eq_true (by rw [hlen]; omega)) .plain <| RunK.nil <| LWP.condT rfl ?_; refine LWP.skip ?_; refine LWP.seq <| LWP.block <| LWP.seq <| LWP.seq <| LWP.region (by kernel_rfl) <| kmv rfl <| kmv rfl <| kln rfl <| keq rfl rfl (r := false) (beq_eq_false_iff_ne.2 (by rw [hlen]; omega)) <| kmv rfl <| gmv rfl rfl rfl <| gmv rfl rfl rfl <| K.indexStr rfl rfl (by omega) hcs (.taken rfl rfl) ?_; refine K.eql rfl rfl h43n (.taken rfl rfl) ?_; refine kpf rfl rfl <| RunK.nil <| LWP.condF rfl ?_; refine LWP.skip ?_; refine LWP.seq <| LWP.seq <| LWP.region (by kernel_rfl) <| kmv rfl <| kmv rfl <| K.indexStr rfl rfl (by omega) hcs .plain <| klt rfl rfl (decide_eq_false (by omega)) <| kmv rfl <| gmv rfl rfl rfl <| gmv rfl rfl rfl <| K.indexStr rfl rfl (by omega) hcs (.taken rfl rfl) ?_; refine K.gtr rfl rfl (decide_eq_false (by omega)) (.taken rfl rfl) ?_; refine kpf rfl rfl <| kmv rfl <| gmv rfl rfl rfl <| K.eql rfl rfl (r := false) (beq_eq_false_iff_ne.2 (by omega)) (.taken rfl rfl) ?_; refine kpf rfl rfl <| kmv rfl <| gmv rfl rfl rfl <| K.gtr rfl rfl (decide_eq_false (by omega)) (.taken rfl rfl) ?_; refine kpf rfl rfl <| kmv rfl <| gmv rfl rfl rfl <| K.lss rfl rfl (decide_eq_false (by omega)) (.taken rfl rfl) ?_; refine gmv rfl rfl rfl <| RunK.passed rfl rfl rfl <| RunK.passed rfl rfl rfl <| RunK.passed rfl rfl rfl <| RunK.passed rfl rfl rfl <| K.pickF rfl rfl (.taken rfl rfl) ?_; refine kpf rfl rfl <| RunK.nil <| LWP.condF rfl ?_; refine LWP.skip ?_; refine LWP.seq <| LWP.seq <| LWP.region (by kernel_rfl) <| kmv rfl <| klt rfl rfl (decide_eq_false (by omega)) <| RunK.nil <| LWP.condF rfl ?_; refine LWP.skip ?_; refine LWP.region (by kernel_rfl) <| kmv rfl <| K.mul rfl rfl hmul .plain <| kmv rfl <| kmv rfl <| K.indexStr rfl rfl (by omega) hcs .plain <| K.sub rfl rfl hsb .plain <| kcv rfl hcv ?_; refine kad rfl rfl hadd <| kas rfl <| RunK.nil <| LWP.region (by kernel_rfl) <| kmv rfl <| kad rfl rfl (wrap_i64 (by omega)) <| kas rfl <| RunK.nil ?_)
    exact ⟨_, pzSt s (i + 1 : Nat) ids (n * 10 + (((c.toNat : Nat) : Int) - 48)) r X, by omega, Le.of (by exact ⟨rfl, rfl, rfl, rfl, trivial⟩) (by exact ⟨rfl, trivial⟩) (by exact rfl) (by exact rfl) (by repeat' (first | refine all_cons_true ?_ ?_ | rfl | exact bytes_inUse | exact vals_inUse | exact mid_inUse rfl)), i + 1, ids, _, r, by omega, rfl, .inl ⟨by omega, run_step hrun hc hch⟩, rfl⟩
  · have hp : parseA s = some (ofN ids) := parse_yes h45 hq1 hq2
    rw [parT_yes hp]
    have hR := Rd.run Rd.start hq1
    rw [List.nil_append] at hR
    obtain ⟨_, _, h3, h4, _⟩ := hR.sep hq2
    have hok : ∀ x ∈ ids, okI x = true := fun x hx => okI_iff.2 (h3 x hx)
    have hil2 : ids.length ≤ 24 := by rw [← ids_ofN hok h4]; exact idsTo_len _ 24
    (refine LWP.seq <| LWP.seq <| LWP.region (by kernel_rfl) <| kmv rfl <| kmv rfl <| kln rfl <| K.leq rfl rfl (decide_eq_false (by rw [hlen]; omega)) .plain <| RunK.nil <| LWP.condF rfl ?_; refine LWP.exit <| LWP.seq ?_)
    refine LWP.le (σ' := ⟨[(4, .sv (.one (.slc 500 0 ids.length)))], [nuB' 500 ids r], X⟩) (Le.of (by exact ⟨rfl, trivial⟩) (by exact ⟨rfl, trivial⟩) (by exact rfl) (by exact rfl) (by repeat' (first | refine all_cons_true ?_ ?_ | rfl | exact bytes_inUse | exact vals_inUse | exact mid_inUse rfl))) ?_
    refine LWP.freeze rfl rfl rfl fun blk cap arr fr hn _ _ _ hsp => ?_
    have hO := sgOf_spec (withBlock X blk (.cells arr 3 fr)) ids (some ⟨blk, 0, none⟩) cap (nu_frozen hsp) (by omega)
    have hoa : okIds ids = true := List.all_eq_true.2 hok
    rw [show ofA ids = ofN ids from if_pos hoa, hoa] at hO
    (refine LWP.region (by kernel_rfl) <| kmv rfl <| kca rfl rfl hO <| kex rfl rfl <| kex rfl rfl <| kas rfl <| kas rfl <| RunK.nil <| LWP.ret ?_)
    exact ⟨[_, _], ⟨rfl, rfl, trivial⟩, rfl⟩
end Go.Proofs.YtklofjlbjahnaaaDoor
end
section
namespace Go.Lg.Sg
open Go Go.Lg Go.Lg.Fld
def withN (a : Nat) (id : Int) : Nat := if okI id = true then a ||| 2 ^ id.toNat else a
def withoutN (a : Nat) (id : Int) : Nat := if hasB a id = true then a ^^^ 2 ^ id.toNat else a
def withinB (a b : Nat) : Bool := (idsL a).all (hasB b)
def meetsB (a b : Nat) : Bool := (idsL a).any (hasB b)
def twiceTo (l : List Int) (n : Nat) : Bool := (List.range n).any fun k => match l[k]? with | some x => (l.take k).any (fun y => y == x) | none => false
theorem twiceTo_succ {l : List Int} {n : Nat} {x : Int} (h : l[n]? = some x) : twiceTo l (n + 1) = (twiceTo l n || (l.take n).any (fun y => y == x)) := by
  unfold twiceTo
  rw [List.range_succ, List.any_append]
  congr 1
  simp only [List.any_cons, List.any_nil, Bool.or_false]
  rw [h]
def ofE (ids : List Int) : Int := if okIds ids = true then 0 else 1
def prE (ids : List Int) : Int := if okIds ids = true then (if twiceTo ids ids.length = true then 7 else 0) else 1
def prN (ids : List Int) : Nat := if prE ids = 0 then ofN ids else 0
def parE (s : List UInt8) : Int := if (parseA s).isSome = true then 0 else 4
theorem or_pow {a k : Nat} (h : a.testBit k = false) : a ||| 2 ^ k = a + 2 ^ k := by
  have hz : (BitVec.ofNat (a + k + 2) a) &&& (BitVec.ofNat (a + k + 2) (2 ^ k)) = 0#(a + k + 2) := by
    apply BitVec.eq_of_getLsbD_eq
    intro i hi
    rw [BitVec.getLsbD_and, BitVec.getLsbD_ofNat, BitVec.getLsbD_ofNat, Nat.testBit_two_pow, BitVec.getLsbD_zero]
    by_cases e : k = i
    · rw [← e, h]; simp
    · rw [decide_eq_false e]; simp
  have h1 := congrArg BitVec.toNat (BitVec.add_eq_or_of_and_eq_zero _ _ hz)
  have hp : ∀ n m : Nat, n ≤ m → n < 2 ^ m := fun n m h => Nat.lt_of_lt_of_le Nat.lt_two_pow_self (Nat.pow_le_pow_right (by decide) h)
  have b1 : a < 2 ^ (a + k) := hp _ _ (by omega)
  have b2 : 2 ^ k ≤ 2 ^ (a + k) := Nat.pow_le_pow_right (by decide) (by omega)
  have b3 : 2 ^ (a + k + 2) = 4 * 2 ^ (a + k) := by rw [Nat.pow_add]; omega
  rw [BitVec.toNat_add, BitVec.toNat_or, BitVec.toNat_ofNat, BitVec.toNat_ofNat, Nat.mod_eq_of_lt (show a < 2 ^ (a + k + 2) by omega), Nat.mod_eq_of_lt (show 2 ^ k < 2 ^ (a + k + 2) by omega), Nat.mod_eq_of_lt (by omega)] at h1
  exact h1.symm
theorem xor_pow {a k : Nat} (h : a.testBit k = true) : a ^^^ 2 ^ k = a - 2 ^ k := by
  have hb : (a ^^^ 2 ^ k).testBit k = false := by rw [Nat.testBit_xor, h, Nat.testBit_two_pow_self]; rfl
  have h1 := or_pow hb
  have h2 : (a ^^^ 2 ^ k) ||| 2 ^ k = a := by
    apply Nat.eq_of_testBit_eq
    intro i
    rw [Nat.testBit_or, Nat.testBit_xor, Nat.testBit_two_pow]
    by_cases e : k = i
    · rw [← e, h]; simp
    · rw [decide_eq_false e]; simp
  rw [h2] at h1
  omega
theorem with_bit {a : Nat} {id : Int} (j : Nat) : (withN a id).testBit j = (a.testBit j || (okI id && decide (id.toNat = j))) := by
  unfold withN
  by_cases h : okI id = true
  · rw [if_pos h, Nat.testBit_or, Nat.testBit_two_pow, h, Bool.true_and]
  · rw [if_neg h, show okI id = false by simpa using h, Bool.false_and, Bool.or_false]
theorem without_bit {a : Nat} {id : Int} (j : Nat) : (withoutN a id).testBit j = (a.testBit j && !(okI id && decide (id.toNat = j))) := by
  unfold withoutN hasB
  by_cases h : okI id = true
  · rw [h, Bool.true_and, Bool.true_and]
    by_cases hb : a.testBit id.toNat = true
    · rw [if_pos hb, Nat.testBit_xor, Nat.testBit_two_pow]
      by_cases e : id.toNat = j
      · rw [← e, hb]; simp
      · rw [decide_eq_false e]; simp
    · rw [if_neg hb]
      by_cases e : id.toNat = j
      · rw [← e]; simp at hb; rw [hb]; rfl
      · rw [decide_eq_false e]; simp
  · rw [show okI id = false by simpa using h]; simp
theorem lt32_of_bits {a : Nat} (h : ∀ j, 32 ≤ j → a.testBit j = false) : a < 4294967296 := Nat.lt_pow_two_of_testBit (n := 32) _ h
theorem bits32 {a : Nat} (h : a < 4294967296) {j : Nat} (hj : 32 ≤ j) : a.testBit j = false := Nat.testBit_lt_two_pow (Nat.lt_of_lt_of_le h (show 2 ^ 32 ≤ 2 ^ j from Nat.pow_le_pow_right (by decide) hj))
theorem with_lt {a : Nat} {id : Int} (h : a < 4294967296) : withN a id < 4294967296 := lt32_of_bits fun j hj => by
  rw [with_bit, bits32 h hj, Bool.false_or]
  by_cases ho : okI id = true
  · have := okI_iff.1 ho
    rw [decide_eq_false (by omega), Bool.and_false]
  · rw [show okI id = false by simpa using ho, Bool.false_and]
theorem without_lt {a : Nat} {id : Int} (h : a < 4294967296) : withoutN a id < 4294967296 := lt32_of_bits fun j hj => by
  rw [without_bit, bits32 h hj, Bool.false_and]
theorem txF_len3 (l : List Int) (h : ∀ x ∈ l, 1 ≤ x ∧ x ≤ 24) : (txF l).1.length ≤ 3 * l.length := by
  unfold txF
  suffices H : ∀ (l : List Int) (s : List UInt8 × Bool), (∀ x ∈ l, 1 ≤ x ∧ x ≤ 24) → (l.foldl txStep s).1.length ≤ s.1.length + 3 * l.length by
    have := H l ([], false) h
    simpa using this
  intro l
  induction l with
  | nil => intro s _; simp
  | cons x t ih =>
    intro s h
    rw [List.foldl_cons]
    have h1 := ih (txStep s x) fun y hy => h y (List.mem_cons_of_mem _ hy)
    obtain ⟨hx1, hx2⟩ := h x (List.mem_cons_self ..)
    have h2 : (Lib.itoa x).length ≤ 2 := by
      obtain ⟨k, rfl⟩ : ∃ k : Nat, x = (k : Nat) := ⟨x.toNat, by omega⟩
      rw [itoa_digs (by omega)]
      unfold digs
      split <;> simp
    have h3 : (txStep s x).1.length ≤ s.1.length + 3 := by
      unfold txStep
      simp only [List.length_append]
      split <;> simp <;> omega
    rw [List.length_cons]
    omega
theorem textT_len (a : Nat) : (textT a).length ≤ 100 := by
  unfold textT
  split
  · simp
  · have h1 := txF_len3 (idsL a) idsL_ok
    have h2 : (idsL a).length ≤ 24 := idsTo_len a 24
    omega
end Go.Lg.Sg
end
section
namespace Go.Lg
open Go Go.RowKit
section
variable {P : Program} {n : Nat} {ops os : List Oper} {acc : List Eff} {K : List Eff → St → Prop} {s : List (Nat × LV)} {bx : List (Nat × Option Box)} {X : Nat → Option Obj} {σ : St}
theorem LOK.makeSlc0 {d m : Nat} {t e : TypeId} {x y : Operand} {ty : TypeId} {pos : String} {after_ : Array Edge} {g : Option (Nat × Bool)} {kl kc : IntKind} {zs : List Value} {sz : Nat} {bytes : Nat}
    (hx : σ.ev x = some (.sv (.one (.val (.int kl 0))))) (hy : σ.ev y = some (.sv (.one (.val (.int kc (m : Nat)))))) (hst : slcBuild P t m = some (zs, sz, e)) (hby : (P.info? e).map (·.bytes) = some bytes) (hfit : bytes * m ≤ 281474976710656 ∧ m < 9223372036854775808)
    (hk : σ.fresh d = true) : LOK P n ops ⟨some d, .makeSlice t x y, ty, pos, after_, g⟩ σ ⟨[(d, .sv (.one (.slc d 0 0 sz)))], [], [(d, some ⟨e, [], true⟩)]⟩ :=
  LOK.make fun σ' ha C ι a w hr => by
    have hk' : σ'.stat d = none := (ha.stat d (.inr (by simp))).trans (St.fresh_none hk)
    have hlt := St.fresh_lt hk
    have h1 : a.eval x = .int kl 0 := hr.ev ((ha.ev (x := x) (by simp [Op.operands])).trans hx)
    have h2 : a.eval y = .int kc (m : Nat) := hr.ev ((ha.ev (x := y) (by simp [Op.operands])).trans hy)
    unfold slcBuild at hst
    cases hu : P.underlying t with
    | none => simp [hu] at hst
    | some dd =>
      cases dd <;> simp only [hu] at hst <;> try (simp at hst; done)
      rename_i e'
      cases hie : P.info? e' with
      | none => simp [hie] at hst
      | some ie =>
        cases hz : ie.zero with
        | none => simp [hie, hz] at hst
        | some z =>
          simp only [hie, hz] at hst
          by_cases hbig : m * ie.size > 2 ^ 24
          · rw [if_pos hbig] at hst; cases hst
          · rw [if_neg hbig] at hst
            simp only [Option.some.injEq, Prod.mk.injEq] at hst
            obtain ⟨e1, e2, e3⟩ := hst
            subst e3
            rw [hie] at hby
            simp only [Option.map_some, Option.some.injEq] at hby
            have hbb : (ie.bytes : Int) * ((m : Nat) : Int) ≤ 281474976710656 := by
              rw [hby, ← Int.natCast_mul]
              have := hfit.1
              omega
            have hrun := run_make (P := P) w t e' ie z hu hie hz kl kc 0 (m : Nat) (Int.le_refl _) (by omega) hbb (by have := hfit.2; omega)
            simp only [Int.toNat_natCast, Int.toNat_zero] at hrun
            have hmc : madeCells z.cells (m * ie.size) = zs.toArray := by
              unfold madeCells
              rw [range_map, ← e1]
            rw [hmc] at hrun
            refine ⟨.slice (some ⟨w.heap.size, 0, none⟩) 0 m, w.alloc (.cells zs.toArray e'), put1 ι d (w.heap.size, zs.toArray.size), ?_, ?_, ?_⟩
            · simp only [execOp, h1, h2, Sem.run_bind, hrun, Result.andThen_ok, Sem.run_pure]
            · exact hr.new hlt hk' (b := ⟨e', [], true⟩) ⟨[], zs, by simp, trivial⟩
            · have hl : zs.length = m * sz := by rw [← e1, ← e2]; simp
              simp [LV.rel, SV.rel, CV.rel, stat_cons, put1, hl]
theorem K.makeSlc0 {d m : Nat} {t e : TypeId} {x y : Operand} {ty : TypeId} {pos : String} {after_ : Array Edge} {g : Option (Nat × Bool)} {kl kc : IntKind} {zs : List Value} {sz : Nat} {bytes : Nat}
    (hx : (⟨s, bx, X⟩ : St).ev x = some (.sv (.one (.val (.int kl 0))))) (hy : (⟨s, bx, X⟩ : St).ev y = some (.sv (.one (.val (.int kc (m : Nat)))))) (hst : slcBuild P t m = some (zs, sz, e)) (hby : (P.info? e).map (·.bytes) = some bytes) (hfit : bytes * m ≤ 281474976710656 ∧ m < 9223372036854775808)
    (hk : (⟨s, bx, X⟩ : St).fresh d = true) (hw : Want ops s g) (kont : RunK P n ops os ⟨(d, .sv (.one (.slc d 0 0 sz))) :: s, (d, some ⟨e, [], true⟩) :: bx, X⟩ (⟨[(d, .sv (.one (.slc d 0 0 sz)))], [], [(d, some ⟨e, [], true⟩)]⟩ :: acc) K) :
    RunK P n ops (⟨some d, .makeSlice t x y, ty, pos, after_, g⟩ :: os) ⟨s, bx, X⟩ acc K := RunK.gen hw (LOK.makeSlc0 hx hy hst hby hfit hk) kont
end
end Go.Lg
end
section
namespace Go.Lg.Sg
open Go Go.Lg Go.Lg.Fld
def allN : Nat := 33554430
theorem allN_bit (j : Nat) : allN.testBit j = (decide (1 ≤ j) && decide (j ≤ 24)) := by
  by_cases h : j < 32
  · have hd : ∀ k : Fin 32, allN.testBit k.val = (decide (1 ≤ k.val) && decide (k.val ≤ 24)) := by decide
    exact hd ⟨j, h⟩
  · rw [Nat.testBit_lt_two_pow (Nat.lt_of_lt_of_le (show allN < 2 ^ 32 by decide) (Nat.pow_le_pow_right (by decide) (by omega))), decide_eq_false (show ¬ j ≤ 24 by omega), Bool.and_false]
theorem nz_bit {x : Nat} : x ≠ 0 ↔ ∃ j, x.testBit j = true := by
  constructor
  · intro h
    by_cases he : ∃ j, x.testBit j = true
    · exact he
    · refine absurd (Nat.eq_of_testBit_eq fun i => ?_) h
      rw [Nat.zero_testBit]
      cases hb : x.testBit i with
      | false => rfl
      | true => exact absurd ⟨i, hb⟩ he
  · rintro ⟨j, hj⟩ rfl
    rw [Nat.zero_testBit] at hj
    cases hj
theorem ne0_is {x : Nat} {b : Bool} (h : b = true ↔ ∃ j, x.testBit j = true) : ((((x : Nat) : Int) != 0)) = b := by
  rw [Bool.eq_iff_iff, bne_iff_ne, h, ← nz_bit]
  omega
theorem eq0_is {x : Nat} {b : Bool} (h : b = false ↔ ∃ j, x.testBit j = true) : ((((x : Nat) : Int) == 0)) = b := by
  rw [← nz_bit] at h
  by_cases hx : x = 0
  · subst hx
    cases b with
    | true => rfl
    | false => exact absurd rfl (h.1 rfl)
  · rw [h.2 hx, beq_eq_false_iff_ne.2 (by omega)]
theorem andN_32 {a b : Nat} (ha : a < 4294967296) (hb : b < 4294967296) : bits .and .u32 ((a : Nat) : Int) ((b : Nat) : Int) = ((a &&& b : Nat) : Int) := u32_and_nat _ _ ha hb
theorem orN_32 {a b : Nat} (ha : a < 4294967296) (hb : b < 4294967296) : bits .or .u32 ((a : Nat) : Int) ((b : Nat) : Int) = ((a ||| b : Nat) : Int) := u32_or_nat _ _ ha hb
theorem notN_bit (a b i : Nat) : (a ^^^ (a &&& b)).testBit i = (a.testBit i && !b.testBit i) := by
  rw [Nat.testBit_xor, Nat.testBit_and]
  cases a.testBit i <;> cases b.testBit i <;> rfl
theorem notN_lt {a b : Nat} (ha : a < 4294967296) : a ^^^ (a &&& b) < 4294967296 := lt32_of_bits fun j hj => by
  rw [notN_bit, bits32 ha hj, Bool.false_and]
theorem notN_bits {a b : Nat} (ha : a < 4294967296) : (BitVec.ofNat 32 a &&& ~~~ BitVec.ofNat 32 b).toNat = a ^^^ (a &&& b) := by
  apply Nat.eq_of_testBit_eq
  intro i
  rw [BitVec.testBit_toNat, BitVec.getLsbD_and, BitVec.getLsbD_not, BitVec.getLsbD_ofNat, BitVec.getLsbD_ofNat, notN_bit]
  by_cases hi : i < 32
  · simp [hi]
  · have h := bits32 ha (show 32 ≤ i by omega)
    simp [hi, h]
theorem notN_32 {a b : Nat} (ha : a < 4294967296) : bits .andNot .u32 ((a : Nat) : Int) ((b : Nat) : Int) = ((a ^^^ (a &&& b) : Nat) : Int) := by
  have h1 : bits .andNot .u32 ((a : Nat) : Int) ((b : Nat) : Int) = IntKind.u32.wrap (((BitVec.ofNat 32 a &&& ~~~ BitVec.ofNat 32 b).toNat : Nat) : Int) := rfl
  rw [h1, notN_bits ha]
  have := notN_lt (b := b) ha
  exact wrap_u32 ⟨Int.natCast_nonneg _, by omega⟩
def bitN (id : Int) : Nat := if okI id = true then 2 ^ id.toNat else 0
theorem bitN_bit (id : Int) (j : Nat) : (bitN id).testBit j = (okI id && decide (id.toNat = j)) := by
  unfold bitN
  by_cases h : okI id = true
  · rw [if_pos h, h, Nat.testBit_two_pow, Bool.true_and]
  · rw [if_neg h, show okI id = false by simpa using h, Nat.zero_testBit, Bool.false_and]
theorem bitN_lt (id : Int) : bitN id < 4294967296 := lt32_of_bits fun j hj => by
  rw [bitN_bit]
  by_cases ho : okI id = true
  · have := okI_iff.1 ho
    rw [decide_eq_false (by omega), Bool.and_false]
  · rw [show okI id = false by simpa using ho, Bool.false_and]
theorem shl_bit {id : Int} (h : okI id = true) : IntKind.u32.wrap (1 * 2 ^ (min id.toNat IntKind.u32.bits)) = ((bitN id : Nat) : Int) := by
  have hi := okI_iff.1 h
  have hm : min id.toNat IntKind.u32.bits = id.toNat := by
    show min id.toNat 32 = id.toNat
    omega
  have hb := bitN_lt id
  have he : bitN id = 2 ^ id.toNat := if_pos h
  rw [he] at hb ⊢
  rw [hm, Int.one_mul, show ((2 : Int) ^ id.toNat) = ((2 ^ id.toNat : Nat) : Int) by rw [Int.natCast_pow]; rfl]
  exact wrap_u32 ⟨Int.natCast_nonneg _, by omega⟩
theorem is_bits {a : Nat} (ha : a < 4294967296) : ((((a ^^^ (a &&& allN) : Nat) : Int)) == 0) = isB a := by
  refine eq0_is ?_
  constructor
  · intro h
    have hn : ¬ isB a = true := by rw [h]; decide
    rw [isB_iff] at hn
    simp only [Classical.not_forall] at hn
    obtain ⟨i, hi, hb, hno⟩ := hn
    refine ⟨i, ?_⟩
    rw [notN_bit, hb, allN_bit]
    by_cases h1 : 1 ≤ i
    · rw [decide_eq_false (show ¬ i ≤ 24 by omega), Bool.and_false]; rfl
    · rw [decide_eq_false h1]; rfl
  · rintro ⟨j, hj⟩
    rw [notN_bit, allN_bit, Bool.and_eq_true] at hj
    cases hb : isB a with
    | false => rfl
    | true =>
      rw [isB_iff] at hb
      have hj32 : j < 32 := by
        by_cases h : j < 32
        · exact h
        · rw [bits32 ha (by omega)] at hj; cases hj.1
      obtain ⟨h1, h2⟩ := hb j hj32 hj.1
      rw [decide_eq_true h1, decide_eq_true h2] at hj
      cases hj.2
theorem has_bits (a : Nat) (id : Int) : ((((a &&& bitN id : Nat) : Int)) != 0) = hasB a id := by
  refine ne0_is ?_
  unfold hasB
  constructor
  · intro h
    rw [Bool.and_eq_true] at h
    exact ⟨id.toNat, by rw [Nat.testBit_and, bitN_bit, h.1, h.2, decide_eq_true rfl]; rfl⟩
  · rintro ⟨j, hj⟩
    rw [Nat.testBit_and, bitN_bit, Bool.and_eq_true, Bool.and_eq_true] at hj
    obtain ⟨h1, h2, h3⟩ := hj
    rw [h2, of_decide_eq_true h3, h1]; rfl
theorem with_bits (a : Nat) (id : Int) : a ||| bitN id = withN a id := by
  unfold bitN withN
  by_cases h : okI id = true
  · rw [if_pos h, if_pos h]
  · rw [if_neg h, if_neg h, Nat.or_zero]
theorem without_bits (a : Nat) (id : Int) : a ^^^ (a &&& bitN id) = withoutN a id := by
  apply Nat.eq_of_testBit_eq
  intro i
  rw [notN_bit, without_bit, bitN_bit]
theorem within_bits (a b : Nat) : (((((a &&& allN) ^^^ ((a &&& allN) &&& b) : Nat) : Int)) == 0) = withinB a b := by
  refine eq0_is ?_
  unfold withinB
  rw [List.all_eq_false]
  constructor
  · rintro ⟨x, hx, hn⟩
    obtain ⟨h1, h2, h3⟩ := mem_ids.1 hx
    refine ⟨x.toNat, ?_⟩
    have ho : okI x = true := okI_iff.2 ⟨h1, by omega⟩
    unfold hasB at hn
    rw [ho, Bool.true_and] at hn
    rw [notN_bit, Nat.testBit_and, allN_bit, h3, decide_eq_true (show 1 ≤ x.toNat by omega), decide_eq_true (show x.toNat ≤ 24 by omega), show b.testBit x.toNat = false by simpa using hn]
    rfl
  · rintro ⟨j, hj⟩
    rw [notN_bit, Nat.testBit_and, allN_bit, Bool.and_eq_true, Bool.and_eq_true, Bool.and_eq_true] at hj
    obtain ⟨⟨h1, h2, h3⟩, h4⟩ := hj
    have h2 := of_decide_eq_true h2
    have h3 := of_decide_eq_true h3
    refine ⟨(j : Int), mem_ids.2 ⟨by omega, by omega, h1⟩, ?_⟩
    unfold hasB
    rw [show ((j : Int)).toNat = j from rfl]
    cases hb : b.testBit j with
    | false => rw [Bool.and_false]; decide
    | true => rw [hb] at h4; cases h4
theorem meets_bits (a b : Nat) : (((((a &&& b) &&& allN : Nat) : Int)) != 0) = meetsB a b := by
  refine ne0_is ?_
  unfold meetsB
  rw [List.any_eq_true]
  constructor
  · rintro ⟨x, hx, hn⟩
    obtain ⟨h1, h2, h3⟩ := mem_ids.1 hx
    refine ⟨x.toNat, ?_⟩
    unfold hasB at hn
    rw [Bool.and_eq_true] at hn
    rw [Nat.testBit_and, Nat.testBit_and, allN_bit, h3, hn.2, decide_eq_true (show 1 ≤ x.toNat by omega), decide_eq_true (show x.toNat ≤ 24 by omega)]
    rfl
  · rintro ⟨j, hj⟩
    rw [Nat.testBit_and, Nat.testBit_and, allN_bit, Bool.and_eq_true, Bool.and_eq_true, Bool.and_eq_true] at hj
    obtain ⟨⟨h1, h4⟩, h2, h3⟩ := hj
    have h2 := of_decide_eq_true h2
    have h3 := of_decide_eq_true h3
    refine ⟨(j : Int), mem_ids.2 ⟨by omega, by omega, h1⟩, ?_⟩
    unfold hasB
    rw [show ((j : Int)).toNat = j from rfl, h4, Bool.and_true, okI_iff]
    omega
def cntB (x : Nat) : Nat := (List.range 32).countP x.testBit
def pc8 (x : Nat) : Nat := (List.range 8).countP x.testBit
theorem pc8_le (x : Nat) : pc8 x ≤ 8 := Nat.le_trans List.countP_le_length (by rw [List.length_range]; exact Nat.le_refl _)
theorem countP_range_add (p : Nat → Bool) (a b : Nat) : (List.range (a + b)).countP p = (List.range a).countP p + (List.range b).countP (fun j => p (a + j)) := by
  rw [List.range_add, List.countP_append, List.countP_map]
  rfl
theorem countP_range_congr {p q : Nat → Bool} {n : Nat} (h : ∀ j, j < n → p j = q j) : (List.range n).countP p = (List.range n).countP q :=
  List.countP_congr fun x hx => by rw [h x (List.mem_range.1 hx)]
theorem pc8_part (x k : Nat) : pc8 (x / 2 ^ k % 256) = (List.range 8).countP (fun j => x.testBit (k + j)) := by
  refine countP_range_congr fun j hj => ?_
  rw [show (256 : Nat) = 2 ^ 8 from rfl, Nat.testBit_mod_two_pow, decide_eq_true hj, Bool.true_and, Nat.testBit_div_two_pow, Nat.add_comm]
theorem cntB_parts {x : Nat} (hx : x < 4294967296) : pc8 (x / 16777216) + pc8 (x / 65536 % 256) + pc8 (x / 256 % 256) + pc8 (x % 256) = cntB x := by
  have h3 := pc8_part x 24
  have h2 := pc8_part x 16
  have h1 := pc8_part x 8
  have h0 := pc8_part x 0
  rw [show x / 2 ^ 24 % 256 = x / 16777216 from Nat.mod_eq_of_lt (by omega)] at h3
  rw [show x / 2 ^ 0 % 256 = x % 256 by rw [Nat.pow_zero, Nat.div_one]] at h0
  rw [h3, show x / 65536 % 256 = x / 2 ^ 16 % 256 from rfl, h2, show x / 256 % 256 = x / 2 ^ 8 % 256 from rfl, h1, h0]
  unfold cntB
  rw [show 32 = 8 + (8 + (8 + 8)) from rfl, countP_range_add, countP_range_add, countP_range_add]
  have e0 : (List.range 8).countP (fun j => x.testBit (0 + j)) = (List.range 8).countP x.testBit := countP_range_congr fun j _ => by rw [Nat.zero_add]
  have e2 : (List.range 8).countP (fun j => x.testBit (16 + j)) = (List.range 8).countP (fun j => x.testBit (8 + (8 + j))) := countP_range_congr fun j _ => by rw [show 16 + j = 8 + (8 + j) by omega]
  have e3 : (List.range 8).countP (fun j => x.testBit (24 + j)) = (List.range 8).countP (fun j => x.testBit (8 + (8 + (8 + j)))) := countP_range_congr fun j _ => by rw [show 24 + j = 8 + (8 + (8 + j)) by omega]
  rw [e0, e2, e3]
  omega
theorem cnt_ids (a : Nat) : cntB (a &&& allN) = (idsL a).length := by
  unfold cntB idsL idsTo
  rw [List.length_map, ← List.countP_eq_length_filter, show 32 = 1 + (24 + 7) from rfl, countP_range_add, countP_range_add]
  have e0 : (List.range 1).countP (a &&& allN).testBit = 0 := by
    rw [List.countP_eq_zero]
    intro j hj
    have := List.mem_range.1 hj
    rw [Nat.testBit_and, allN_bit, decide_eq_false (show ¬ 1 ≤ j by omega)]
    simp
  have e2 : (List.range 7).countP (fun j => (a &&& allN).testBit (1 + (24 + j))) = 0 := by
    rw [List.countP_eq_zero]
    intro j _
    rw [Nat.testBit_and, allN_bit, decide_eq_false (show ¬ 1 + (24 + j) ≤ 24 by omega)]
    simp
  have e1 : (List.range 24).countP (fun j => (a &&& allN).testBit (1 + j)) = (List.range 24).countP (fun j => a.testBit (j + 1)) := countP_range_congr fun j hj => by
    rw [Nat.testBit_and, allN_bit, decide_eq_true (show 1 ≤ 1 + j by omega), decide_eq_true (show 1 + j ≤ 24 by omega), Bool.and_self, Bool.and_true, Nat.add_comm]
  rw [e0, e1, e2]
  omega
theorem ofN_snoc (l : List Int) (x : Int) : ofN (l ++ [x]) = ofN l ||| 2 ^ x.toNat := by
  unfold ofN
  rw [List.foldl_append]
  rfl
theorem with_snoc {l : List Int} {x : Int} (h : okI x = true) : withN (ofN l) x = ofN (l ++ [x]) := by
  rw [ofN_snoc]
  exact if_pos h
theorem okIds_no {l : List Int} {i : Nat} {x : Int} (hx : l[i]? = some x) (h : okI x = false) : okIds l = false := by
  unfold okIds
  rw [List.all_eq_false]
  exact ⟨x, List.mem_of_getElem? hx, by rw [h]; decide⟩
theorem sub_len : ∀ {l1 l2 : List Int}, l1.Nodup → (∀ x ∈ l1, x ∈ l2) → l1.length ≤ l2.length
  | [], _, _, _ => Nat.zero_le _
  | x :: t, l2, hn, hs => by
    rw [List.nodup_cons] at hn
    have hx := hs x (List.mem_cons_self ..)
    have h1 : t.length ≤ (l2.erase x).length := sub_len hn.2 fun y hy => by
      have hne : y ≠ x := fun e => hn.1 (e ▸ hy)
      exact (List.mem_erase_of_ne hne).2 (hs y (List.mem_cons_of_mem _ hy))
    have h2 := List.length_erase_of_mem hx
    have h3 := List.length_pos_of_mem hx
    rw [List.length_cons]
    omega
theorem idsTo_nodup (a n : Nat) : (idsTo a n).Nodup := (idsTo_rising a n).imp fun {x y} (h : x < y) => by omega
theorem mem_ofN {l : List Int} (h : okIds l = true) (x : Int) : x ∈ idsL (ofN l) ↔ x ∈ l := by
  have hok : ∀ y ∈ l, okI y = true := List.all_eq_true.1 h
  unfold idsL
  rw [mem_ids]
  constructor
  · rintro ⟨h1, h2, h3⟩
    rw [ofN_bit, List.any_eq_true] at h3
    obtain ⟨y, hy, e⟩ := h3
    have := okI_iff.1 (hok y hy)
    have := beq_iff_eq.1 e
    rw [show x = y by omega]
    exact hy
  · intro hx
    have := okI_iff.1 (hok x hx)
    exact ⟨this.1, this.2, by rw [ofN_bit, List.any_eq_true]; exact ⟨x, hx, beq_iff_eq.2 rfl⟩⟩
theorem twice_len {l : List Int} (h : okIds l = true) : ((((idsL (ofN l)).length : Nat) : Int) != ((l.length : Nat) : Int)) = twiceTo l l.length := by
  have hm := mem_ofN h
  have h1 : (idsL (ofN l)).length ≤ l.length := sub_len (idsTo_nodup _ _) fun x hx => (hm x).1 hx
  cases ht : twiceTo l l.length with
  | true =>
    unfold twiceTo at ht
    rw [List.any_eq_true] at ht
    obtain ⟨k, hk, hc⟩ := ht
    have hk := List.mem_range.1 hk
    obtain ⟨x, hx⟩ : ∃ x, l[k]? = some x := ⟨_, List.getElem?_eq_getElem hk⟩
    rw [hx] at hc
    have hc : ((l.take k).any fun y => y == x) = true := hc
    rw [List.any_eq_true] at hc
    obtain ⟨y, hy, e⟩ := hc
    have e := beq_iff_eq.1 e
    subst e
    have hl : l = l.take k ++ y :: l.drop (k + 1) := take_cons hx
    have h2 : (idsL (ofN l)).length ≤ (l.take k ++ l.drop (k + 1)).length := sub_len (idsTo_nodup _ _) fun z hz => by
      have hz := (hm z).1 hz
      rw [hl] at hz
      rcases List.mem_append.1 hz with hz | hz
      · exact List.mem_append_left _ hz
      · rcases List.mem_cons.1 hz with rfl | hz
        · exact List.mem_append_left _ hy
        · exact List.mem_append_right _ hz
    rw [List.length_append, List.length_take, List.length_drop] at h2
    rw [bne_iff_ne]
    omega
  | false =>
    have hn : l.Nodup := by
      unfold List.Nodup
      rw [List.pairwise_iff_getElem]
      intro i j hi hj hij e
      unfold twiceTo at ht
      rw [List.any_eq_false] at ht
      refine ht j (List.mem_range.2 hj) ?_
      rw [List.getElem?_eq_getElem hj]
      show ((l.take j).any fun y => y == l[j]) = true
      rw [List.any_eq_true]
      exact ⟨l[i], List.mem_iff_getElem?.2 ⟨i, by rw [List.getElem?_take, if_pos hij, List.getElem?_eq_getElem hi]⟩, beq_iff_eq.2 e⟩
    have h2 : l.length ≤ (idsL (ofN l)).length := sub_len hn fun x hx => (hm x).2 hx
    rw [bne_eq_false_iff_eq]
    omega
theorem txF_join (l : List Int) : Lib.join (l.map Lib.itoa) [43] = (txF l).1 := by
  cases l with
  | nil => rfl
  | cons x r =>
    rw [List.map_cons, Lib.join_cons]
    have h : ∀ (r : List Int) (s : List UInt8), (r.foldl txStep (s, true)).1 = s ++ Lib.joinTail [43] (r.map Lib.itoa) := by
      intro r
      induction r with
      | nil => intro s; simp [Lib.joinTail]
      | cons y t ih =>
        intro s
        rw [List.foldl_cons]
        have hs : txStep (s, true) y = (s ++ [43] ++ Lib.itoa y, true) := rfl
        rw [hs, ih]
        simp [Lib.joinTail, List.append_assoc]
    unfold txF
    rw [List.foldl_cons]
    have hs : txStep ([], false) x = (Lib.itoa x, true) := rfl
    rw [hs, h]
def idTo (s : List UInt8) (n : Nat) : Int := match (List.range n).find? (fun k => Lib.itoa ((k + 1 : Nat) : Int) == s) with | some k => ((k + 1 : Nat) : Int) | none => 0
def idW (s : List UInt8) : Int := idTo s 24
theorem idW_range (s : List UInt8) : idW s = 0 ∨ (1 ≤ idW s ∧ idW s ≤ 24 ∧ Lib.itoa (idW s) = s) := by
  unfold idW idTo
  cases h : (List.range 24).find? (fun k => Lib.itoa ((k + 1 : Nat) : Int) == s) with
  | none => exact .inl rfl
  | some k =>
    refine .inr ?_
    have h1 := List.mem_range.1 (List.mem_of_find?_eq_some h)
    have h2 := beq_iff_eq.1 (List.find?_some (p := fun k : Nat => Lib.itoa ((k + 1 : Nat) : Int) == s) h)
    show 1 ≤ ((k + 1 : Nat) : Int) ∧ ((k + 1 : Nat) : Int) ≤ 24 ∧ Lib.itoa ((k + 1 : Nat) : Int) = s
    exact ⟨by omega, by omega, h2⟩
theorem itoa_inj24 {x y : Int} (h1 : 1 ≤ x ∧ x ≤ 24) (h2 : 1 ≤ y ∧ y ≤ 24) (h : Lib.itoa x = Lib.itoa y) : x = y := by
  have e1 := runS_itoa h1.1 h1.2 []
  rw [h, runS_itoa h2.1 h2.2 []] at e1
  simp only [Option.some.injEq, Prod.mk.injEq] at e1
  exact e1.2.symm
theorem idW_of {s : List UInt8} {x : Int} (h1 : 1 ≤ x ∧ x ≤ 24) (h : Lib.itoa x = s) : idW s = x := by
  rcases idW_range s with h0 | ⟨a1, a2, a3⟩
  · exfalso
    unfold idW idTo at h0
    cases hf : (List.range 24).find? (fun k => Lib.itoa ((k + 1 : Nat) : Int) == s) with
    | none =>
      rw [List.find?_eq_none] at hf
      refine hf (x.toNat - 1) (List.mem_range.2 (by omega)) ?_
      rw [show ((x.toNat - 1 + 1 : Nat) : Int) = x by omega]
      exact beq_iff_eq.2 h
    | some k =>
      rw [hf] at h0
      have h0 : ((k + 1 : Nat) : Int) = 0 := h0
      omega
  · exact itoa_inj24 ⟨a1, a2⟩ h1 (a3.trans h.symm)
theorem idW_no {s : List UInt8} (h : ∀ i : Nat, i < 24 → Lib.itoa ((i + 1 : Nat) : Int) ≠ s) : idW s = 0 := by
  rcases idW_range s with h0 | ⟨a1, a2, a3⟩
  · exact h0
  · refine absurd a3 ?_
    have := h ((idW s).toNat - 1) (by omega)
    rw [show (((idW s).toNat - 1 + 1 : Nat) : Int) = idW s by omega] at this
    exact this
def lastI (l : List Int) : Int := l.getLast?.getD 0
theorem lastI_snoc (l : List Int) (x : Int) : lastI (l ++ [x]) = x := by unfold lastI; simp
theorem all43 {w : List UInt8} (h : 43 ∉ w) : w.all (fun c => c != 43) = true := by
  rw [List.all_eq_true]
  intro c hc
  rw [bne_iff_ne]
  intro e
  exact h (e ▸ hc)
theorem word_sep {ids : List Int} (hok : ∀ x ∈ ids, okI x = true) {w : List UInt8} (h : 43 ∉ w) : (runS (ids, -1) w).bind sepS = if idW w ≤ lastI ids then none else some (ids ++ [idW w], -1) := by
  have hl0 : 0 ≤ lastI ids := by
    unfold lastI
    cases hg : ids.getLast? with
    | none => exact Int.le_refl _
    | some y =>
      have := okI_iff.1 (hok y (List.mem_of_getLast? hg))
      show 0 ≤ y
      omega
  rcases idW_range w with h0 | ⟨h1, h2, h3⟩
  · rw [if_pos (by omega), runS_digs (all43 h)]
    cases hf : w.foldlM digS (-1) with
    | none => rfl
    | some n =>
      show sepS (ids, n) = none
      by_cases hn : 1 ≤ n ∧ n ≤ 24
      · exfalso
        have hr : runS ([], -1) w = some ([], n) := by rw [runS_digs (all43 h), hf]; rfl
        have hR := (Rd.run Rd.start hr).text
        have hR : w = preT [] ++ digT n := hR
        have hd : digT n = Lib.itoa n := if_neg (by omega)
        rw [hd] at hR
        have he : w = Lib.itoa n := hR
        have := idW_of (s := w) hn he.symm
        omega
      · exact sep_no (by omega)
  · generalize hx : idW w = x at *
    rw [← h3, runS_itoa h1 h2]
    show sepS (ids, x) = _
    by_cases hle : x ≤ lastI ids
    · rw [if_pos hle]
      refine sep_no (.inr (.inr ?_))
      unfold lastI at hle
      cases hg : ids.getLast? with
      | none => rw [hg] at hle; exact absurd hle (by show ¬ x ≤ 0; omega)
      | some y => rw [hg] at hle; exact ⟨y, rfl, hle⟩
    · rw [if_neg hle]
      refine sep_yes (by omega) (by omega) fun y hy => ?_
      unfold lastI at hle
      rw [hy] at hle
      exact hle
def Unread (s : List UInt8) (ids : List Int) (l : List UInt8) : Prop := (runS ([], -1) s).bind sepS = (runS (ids, -1) l).bind sepS
theorem left_plus {ids : List Int} (hok : ∀ x ∈ ids, okI x = true) {w r : List UInt8} (h : 43 ∉ w) : (runS (ids, -1) (w ++ 43 :: r)).bind sepS = if idW w ≤ lastI ids then none else (runS (ids ++ [idW w], -1) r).bind sepS := by
  have hw := word_sep hok h
  rw [runS_append]
  cases hr : runS (ids, -1) w with
  | none =>
    rw [hr] at hw
    have hw : none = if idW w ≤ lastI ids then none else some (ids ++ [idW w], (-1 : Int)) := hw
    by_cases hle : idW w ≤ lastI ids
    · rw [if_pos hle]; rfl
    · rw [if_neg hle] at hw; cases hw
  | some q =>
    rw [hr] at hw
    have hw : sepS q = if idW w ≤ lastI ids then none else some (ids ++ [idW w], (-1 : Int)) := hw
    have h2 : ((some q).bind fun q => runS q (43 :: r)) = (sepS q).bind fun q => runS q r := by
      show runS q (43 :: r) = _
      unfold runS
      rw [List.foldlM_cons, ch_sep]
      rfl
    rw [h2, hw]
    by_cases hle : idW w ≤ lastI ids
    · rw [if_pos hle, if_pos hle]; rfl
    · rw [if_neg hle, if_neg hle]; rfl
theorem Unread.no {s l : List UInt8} {ids : List Int} (hL : Unread s ids l) (h45 : s ≠ [45]) (h : (runS (ids, -1) l).bind sepS = none) : parseA s = none := by
  unfold parseA
  rw [if_neg h45, show (runS ([], -1) s).bind sepS = none from hL.trans h]
  rfl
theorem Unread.yes {s l : List UInt8} {ids ids' : List Int} (hL : Unread s ids l) (h45 : s ≠ [45]) (h : (runS (ids, -1) l).bind sepS = some (ids', -1)) : parseA s = some (ofN ids') := by
  unfold parseA
  rw [if_neg h45, show (runS ([], -1) s).bind sepS = some (ids', -1) from hL.trans h]
  rfl
theorem ix_none {s : List UInt8} (h : Lib.indexByte s 43 = -1) : 43 ∉ s := fun hm => by
  obtain ⟨k, hk⟩ := List.mem_iff_getElem?.1 hm
  exact Lib.indexByte_none h k hk
theorem ix_some {s : List UInt8} {o : Nat} (h : Lib.indexByte s 43 = o) : s = s.take o ++ 43 :: s.drop (o + 1) ∧ 43 ∉ s.take o := by
  obtain ⟨h1, h2⟩ := Lib.indexByte_some h
  refine ⟨take_cons h1, fun hm => ?_⟩
  obtain ⟨k, hk⟩ := List.mem_iff_getElem?.1 hm
  rw [List.getElem?_take] at hk
  split at hk
  · rename_i hlt
    exact h2 k hlt hk
  · cases hk
def cutW (s : List UInt8) : List UInt8 := if 0 ≤ Lib.indexByte s 43 then s.take (Lib.indexByte s 43).toNat else s
def cutR (s : List UInt8) : List UInt8 := if 0 ≤ Lib.indexByte s 43 then s.drop ((Lib.indexByte s 43).toNat + 1) else []
def cutM (s : List UInt8) : Bool := decide (0 ≤ Lib.indexByte s 43)
theorem cut_cases (s : List UInt8) : (cutM s = false ∧ cutW s = s ∧ cutR s = [] ∧ 43 ∉ s ∧ Lib.indexByte s 43 = -1) ∨ (cutM s = true ∧ ∃ o : Nat, Lib.indexByte s 43 = o ∧ o < s.length ∧ cutW s = s.take o ∧ cutR s = s.drop (o + 1) ∧ s = cutW s ++ 43 :: cutR s ∧ 43 ∉ cutW s ∧ (cutR s).length < s.length) := by
  have hge := Lib.indexByte_ge s 43
  by_cases h : 0 ≤ Lib.indexByte s 43
  · obtain ⟨o, ho⟩ : ∃ o : Nat, Lib.indexByte s 43 = o := ⟨(Lib.indexByte s 43).toNat, by omega⟩
    have hW : cutW s = s.take o := by unfold cutW; rw [if_pos h, ho]; rfl
    have hR : cutR s = s.drop (o + 1) := by unfold cutR; rw [if_pos h, ho]; rfl
    obtain ⟨h1, h2⟩ := ix_some ho
    have hlt : o < s.length := by
      obtain ⟨h3, _⟩ := Lib.indexByte_some ho
      exact (List.getElem?_eq_some_iff.1 h3).1
    refine .inr ⟨decide_eq_true h, o, ho, hlt, hW, hR, by rw [hW, hR]; exact h1, by rw [hW]; exact h2, ?_⟩
    rw [hR, List.length_drop]
    omega
  · have hm : Lib.indexByte s 43 = -1 := by omega
    exact .inl ⟨decide_eq_false h, if_neg h, if_neg h, ix_none hm, hm⟩
end Go.Lg.Sg
end
section
namespace Go.Lg.Sg
open Go Go.Lg Go.Lg.Fld
theorem okI_eq (id : Int) : okI id = (decide (1 ≤ id) && decide (id ≤ 24)) := rfl
def popB (i : Nat) : UInt8 := UInt8.ofNat (pc8 i)
theorem popB_nat (i : Nat) : (popB i).toNat = pc8 i := by
  unfold popB
  have := pc8_le i
  rw [UInt8.toNat_ofNat']
  omega
end Go.Lg.Sg
namespace Go.Proofs.YtklofjlbjahnaaaDoor
open Go Go.Lg Go.Lg.Fld Go.Lg.Sg
set_option maxRecDepth 100000
variable (X : Nat → Option Obj)
theorem zIsId (id : Int) : PSpec Tryd.prog X 30 [Ln .i64 id] (Lb (okI id)) := by
  refine PSpec.intro Tryd.func30 rfl (by kernel_rfl) rfl rfl ?_
  intro C
  by_cases h1 : 1 ≤ id
  · rw [okI_eq, decide_eq_true h1, Bool.true_and]
    (refine LWP.seq <| LWP.region (by kernel_rfl) <| kas rfl <| RunK.nil <| LWP.seq <| LWP.region (by kernel_rfl) <| kmv rfl <| K.geq rfl rfl (decide_eq_true h1) .plain <| kmv rfl <| gmv rfl rfl rfl <| K.leq rfl rfl (r := decide (id ≤ 24)) rfl (.taken rfl rfl) ?_; refine kpt rfl rfl <| kas rfl <| RunK.nil <| LWP.ret ?_)
    exact ⟨[_], ⟨rfl, trivial⟩, rfl⟩
  · rw [okI_eq, decide_eq_false h1, Bool.false_and]
    (refine LWP.seq <| LWP.region (by kernel_rfl) <| kas rfl <| RunK.nil <| LWP.seq <| LWP.region (by kernel_rfl) <| kmv rfl <| K.geq rfl rfl (decide_eq_false h1) .plain <| kmv rfl <| RunK.passed rfl rfl rfl <| RunK.passed rfl rfl rfl <| kpf rfl rfl <| kas rfl <| RunK.nil ?_; refine LWP.ret ?_)
    exact ⟨[_], ⟨rfl, trivial⟩, rfl⟩
theorem zBit (id : Int) : PSpec Tryd.prog X 29 [Ln .i64 id] (Ln .u32 (bitN id : Nat)) := by
  have hI := zIsId X id
  refine PSpec.intro Tryd.func29 rfl (by kernel_rfl) rfl rfl ?_
  intro C
  cases h : okI id with
  | false =>
    have hz : bitN id = 0 := if_neg (by rw [h]; decide)
    rw [h] at hI
    rw [hz]
    (refine LWP.seq <| LWP.region (by kernel_rfl) <| kas rfl <| RunK.nil <| LWP.seq <| LWP.seq <| LWP.region (by kernel_rfl) <| kmv rfl <| kca rfl rfl (hI) <| K.not rfl rfl .plain <| RunK.nil <| LWP.condT rfl ?_; refine LWP.seq <| LWP.region (by kernel_rfl) <| kas rfl <| RunK.nil <| LWP.ret ?_)
    exact ⟨[_], ⟨rfl, trivial⟩, rfl⟩
  | true =>
    have hs := shl_bit h
    have h0 := (okI_iff.1 h).1
    rw [h] at hI
    generalize bitN id = b at *
    (refine LWP.seq <| LWP.region (by kernel_rfl) <| kas rfl <| RunK.nil <| LWP.seq <| LWP.seq <| LWP.region (by kernel_rfl) <| kmv rfl <| kca rfl rfl (hI) <| K.not rfl rfl .plain <| RunK.nil <| LWP.condF rfl ?_; refine LWP.skip ?_; refine LWP.seq <| LWP.region (by kernel_rfl) <| kmv rfl <| K.shl rfl rfl (by omega) hs .plain <| kas rfl <| RunK.nil <| LWP.ret ?_)
    exact ⟨[_], ⟨rfl, trivial⟩, rfl⟩
section
variable (a b : Nat) (ha : a < 4294967296) (hb : b < 4294967296) (id : Int)
include ha
theorem gIs : PSpec Tryd.prog X 13 [Ln .u32 (a : Nat)] (Lb (isB a)) := by
  have h1 := notN_32 (b := allN) ha
  have h2 := is_bits ha
  refine PSpec.intro Tryd.func13 rfl (by kernel_rfl) rfl rfl ?_
  intro C
  generalize a ^^^ (a &&& allN) = c at *
  (refine LWP.seq <| LWP.region (by kernel_rfl) <| kas rfl <| RunK.nil <| LWP.seq <| LWP.region (by kernel_rfl) <| kmv rfl <| K.bitop (by simp) rfl rfl h1 .plain <| keq rfl rfl h2 <| kas rfl <| RunK.nil <| LWP.ret ?_)
  exact ⟨[_], ⟨rfl, trivial⟩, rfl⟩
theorem gHas : PSpec Tryd.prog X 15 [Ln .u32 (a : Nat), Ln .i64 id] (Lb (hasB a id)) := by
  have h1 := andN_32 ha (bitN_lt id)
  have h2 := has_bits a id
  have hB := zBit X id
  refine PSpec.intro Tryd.func15 rfl (by kernel_rfl) rfl rfl ?_
  intro C
  generalize a &&& bitN id = c at *
  generalize bitN id = d at *
  (refine LWP.seq <| LWP.region (by kernel_rfl) <| kas rfl <| RunK.nil <| LWP.seq <| LWP.region (by kernel_rfl) <| kmv rfl <| kmv rfl <| kca rfl rfl (hB) <| K.bitop (by simp) rfl rfl h1 .plain <| kne rfl rfl h2 <| kas rfl <| RunK.nil <| LWP.ret ?_)
  exact ⟨[_], ⟨rfl, trivial⟩, rfl⟩
theorem gWith : PSpec Tryd.prog X 16 [Ln .u32 (a : Nat), Ln .i64 id] (Ln .u32 (withN a id : Nat)) := by
  have h1 := orN_32 ha (bitN_lt id)
  rw [with_bits] at h1
  have hB := zBit X id
  refine PSpec.intro Tryd.func16 rfl (by kernel_rfl) rfl rfl ?_
  intro C
  generalize withN a id = c at *
  generalize bitN id = d at *
  (refine LWP.seq <| LWP.region (by kernel_rfl) <| kas rfl <| RunK.nil <| LWP.seq <| LWP.region (by kernel_rfl) <| kmv rfl <| kmv rfl <| kca rfl rfl (hB) <| K.bitop (by simp) rfl rfl h1 .plain <| kas rfl <| RunK.nil <| LWP.ret ?_)
  exact ⟨[_], ⟨rfl, trivial⟩, rfl⟩
theorem gWithout : PSpec Tryd.prog X 17 [Ln .u32 (a : Nat), Ln .i64 id] (Ln .u32 (withoutN a id : Nat)) := by
  have h1 := notN_32 (b := bitN id) ha
  rw [without_bits] at h1
  have hB := zBit X id
  refine PSpec.intro Tryd.func17 rfl (by kernel_rfl) rfl rfl ?_
  intro C
  generalize withoutN a id = c at *
  generalize bitN id = d at *
  (refine LWP.seq <| LWP.region (by kernel_rfl) <| kas rfl <| RunK.nil <| LWP.seq <| LWP.region (by kernel_rfl) <| kmv rfl <| kmv rfl <| kca rfl rfl (hB) <| K.bitop (by simp) rfl rfl h1 .plain <| kas rfl <| RunK.nil <| LWP.ret ?_)
  exact ⟨[_], ⟨rfl, trivial⟩, rfl⟩
theorem gWithin (_ : b < 4294967296) : PSpec Tryd.prog X 18 [Ln .u32 (a : Nat), Ln .u32 (b : Nat)] (Lb (withinB a b)) := by
  have h1 := andN_32 ha (show allN < 4294967296 by decide)
  have hm : a &&& allN < 4294967296 := Nat.lt_of_le_of_lt Nat.and_le_left ha
  have h2 := notN_32 (b := b) hm
  have h3 := within_bits a b
  refine PSpec.intro Tryd.func18 rfl (by kernel_rfl) rfl rfl ?_
  intro C
  generalize (a &&& allN) ^^^ ((a &&& allN) &&& b) = d at *
  generalize a &&& allN = c at *
  (refine LWP.seq <| LWP.region (by kernel_rfl) <| kas rfl <| RunK.nil <| LWP.seq <| LWP.region (by kernel_rfl) <| kmv rfl <| K.bitop (by simp) rfl rfl h1 .plain <| kmv rfl <| K.bitop (by simp) rfl rfl h2 .plain <| keq rfl rfl h3 <| kas rfl <| RunK.nil <| LWP.ret ?_)
  exact ⟨[_], ⟨rfl, trivial⟩, rfl⟩
include hb
theorem gMeets : PSpec Tryd.prog X 19 [Ln .u32 (a : Nat), Ln .u32 (b : Nat)] (Lb (meetsB a b)) := by
  have h1 := andN_32 ha hb
  have hm : a &&& b < 4294967296 := Nat.lt_of_le_of_lt Nat.and_le_left ha
  have h2 := andN_32 hm (show allN < 4294967296 by decide)
  have h3 := meets_bits a b
  refine PSpec.intro Tryd.func19 rfl (by kernel_rfl) rfl rfl ?_
  intro C
  generalize (a &&& b) &&& allN = d at *
  generalize a &&& b = c at *
  (refine LWP.seq <| LWP.region (by kernel_rfl) <| kas rfl <| RunK.nil <| LWP.seq <| LWP.region (by kernel_rfl) <| kmv rfl <| kmv rfl <| K.bitop (by simp) rfl rfl h1 .plain <| K.bitop (by simp) rfl rfl h2 .plain <| kne rfl rfl h3 <| kas rfl <| RunK.nil <| LWP.ret ?_)
  exact ⟨[_], ⟨rfl, trivial⟩, rfl⟩
end
end Go.Proofs.YtklofjlbjahnaaaDoor
end
section
namespace Go.Lg.Sg
open Go Go.Lg Go.Lg.Fld
def popT : ByteArray := ⟨((([0, 1, 1, 2, 1, 2, 2, 3, 1, 2, 2, 3, 2, 3, 3, 4, 1, 2, 2, 3, 2, 3, 3, 4, 2, 3, 3, 4, 3, 4, 4, 5, 1, 2, 2, 3, 2, 3, 3, 4, 2, 3, 3, 4, 3, 4, 4, 5, 2, 3, 3, 4, 3, 4, 4, 5, 3, 4, 4, 5, 4, 5, 5, 6] : List UInt8).append [1, 2, 2, 3, 2, 3, 3, 4, 2, 3, 3, 4, 3, 4, 4, 5, 2, 3, 3, 4, 3, 4, 4, 5, 3, 4, 4, 5, 4, 5, 5, 6, 2, 3, 3, 4, 3, 4, 4, 5, 3, 4, 4, 5, 4, 5, 5, 6, 3, 4, 4, 5, 4, 5, 5, 6, 4, 5, 5, 6, 5, 6, 6, 7]).append (([1, 2, 2, 3, 2, 3, 3, 4, 2, 3, 3, 4, 3, 4, 4, 5, 2, 3, 3, 4, 3, 4, 4, 5, 3, 4, 4, 5, 4, 5, 5, 6, 2, 3, 3, 4, 3, 4, 4, 5, 3, 4, 4, 5, 4, 5, 5, 6, 3, 4, 4, 5, 4, 5, 5, 6, 4, 5, 5, 6, 5, 6, 6, 7] : List UInt8).append [2, 3, 3, 4, 3, 4, 4, 5, 3, 4, 4, 5, 4, 5, 5, 6, 3, 4, 4, 5, 4, 5, 5, 6, 4, 5, 5, 6, 5, 6, 6, 7, 3, 4, 4, 5, 4, 5, 5, 6, 4, 5, 5, 6, 5, 6, 6, 7, 4, 5, 5, 6, 5, 6, 6, 7, 5, 6, 6, 7, 6, 7, 7, 8])).toArray⟩
theorem pop_fin : ∀ k : Fin 256, popT[k.val]? = some (popB k.val) := by decide +kernel
theorem pop_at {i : Nat} (h : i < 256) : popT[(((i : Nat) : Int)).toNat]? = some (popB i) := pop_fin ⟨i, h⟩
theorem pop_shr (x k : Nat) (hk : k < 32) : ((x : Nat) : Int).fdiv (2 ^ (min (Int.toNat (k : Int)) IntKind.u32.bits)) = ((x / 2 ^ k : Nat) : Int) := by
  have hm : min (Int.toNat (k : Int)) IntKind.u32.bits = k := by
    show min k 32 = k
    omega
  rw [hm, Int.fdiv_eq_ediv_of_nonneg _ (by have := Int.pow_pos (n := (2 : Int)) (m := k) (by decide); omega), Int.natCast_ediv, Int.natCast_pow]
  rfl
theorem pop_and {m : Nat} (h : m < 4294967296) : bits .and .u32 ((m : Nat) : Int) 255 = ((m % 256 : Nat) : Int) := by
  rw [show (255 : Int) = ((255 : Nat) : Int) from rfl, u32_and_nat _ _ h (by decide)]
  rw [show m &&& 255 = m % 256 from Nat.and_two_pow_sub_one_eq_mod m 8]
theorem pop_add {i j n : Nat} (h : i + j = n) (hn : n < 256) : IntKind.u8.wrap (((i : Nat) : Int) + ((j : Nat) : Int)) = ((n : Nat) : Int) := by
  rw [IntKind.wrap_u8]
  omega
end Go.Lg.Sg
namespace Go.Proofs.YtklofjlbjahnaaaDoor
open Go Go.Lg Go.Lg.Fld Go.Lg.Sg
set_option maxRecDepth 100000
variable (X : Nat → Option Obj)
set_option maxHeartbeats 1600000 in
theorem zOnes (x : Nat) (hx : x < 4294967296) : PSpec Tryd.prog X 28 [Ln .u32 (x : Nat)] (Ln .i64 (cntB x : Nat)) := by
  refine PSpec.intro Tryd.func28 rfl (by kernel_rfl) rfl rfl ?_
  intro C
  have hsum := cntB_parts hx
  have s3 := pop_shr x 24 (by decide)
  have s2 := pop_shr x 16 (by decide)
  have s1 := pop_shr x 8 (by decide)
  rw [show x / 2 ^ 24 = x / 16777216 from rfl] at s3
  rw [show x / 2 ^ 16 = x / 65536 from rfl] at s2
  rw [show x / 2 ^ 8 = x / 256 from rfl] at s1
  have a2 := pop_and (m := x / 65536) (by omega)
  have a1 := pop_and (m := x / 256) (by omega)
  have a0 := pop_and hx
  have p3 := pop_at (i := x / 16777216) (by omega)
  have p2 := pop_at (i := x / 65536 % 256) (by omega)
  have p1 := pop_at (i := x / 256 % 256) (by omega)
  have p0 := pop_at (i := x % 256) (by omega)
  have b3 := popB_nat (x / 16777216)
  have b2 := popB_nat (x / 65536 % 256)
  have b1 := popB_nat (x / 256 % 256)
  have b0 := popB_nat (x % 256)
  have l3 := pc8_le (x / 16777216)
  have l2 := pc8_le (x / 65536 % 256)
  have l1 := pc8_le (x / 256 % 256)
  have l0 := pc8_le (x % 256)
  rw [← b3, ← b2, ← b1, ← b0] at hsum
  rw [← b3] at l3
  rw [← b2] at l2
  rw [← b1] at l1
  rw [← b0] at l0
  have d1 := pop_add (i := (popB (x / 16777216)).toNat) (j := (popB (x / 65536 % 256)).toNat) rfl (by omega)
  have d2 := pop_add (i := (popB (x / 16777216)).toNat + (popB (x / 65536 % 256)).toNat) (j := (popB (x / 256 % 256)).toNat) rfl (by omega)
  have d3 := pop_add (i := (popB (x / 16777216)).toNat + (popB (x / 65536 % 256)).toNat + (popB (x / 256 % 256)).toNat) (j := (popB (x % 256)).toNat) hsum (by omega)
  have hcv : IntKind.i64.wrap ((cntB x : Nat) : Int) = ((cntB x : Nat) : Int) := wrap_i64 (by omega)
  generalize cntB x = n at *
  generalize popB (x / 16777216) = q3 at *
  generalize popB (x / 65536 % 256) = q2 at *
  generalize popB (x / 256 % 256) = q1 at *
  generalize popB (x % 256) = q0 at *
  have i3 : (0 : Int) ≤ ((x / 16777216 : Nat) : Int) := Int.natCast_nonneg _
  have i2 : (0 : Int) ≤ ((x / 65536 % 256 : Nat) : Int) := Int.natCast_nonneg _
  have i1 : (0 : Int) ≤ ((x / 256 % 256 : Nat) : Int) := Int.natCast_nonneg _
  have i0 : (0 : Int) ≤ ((x % 256 : Nat) : Int) := Int.natCast_nonneg _
  (refine LWP.seq <| LWP.region (by kernel_rfl) <| kas rfl <| RunK.nil <| LWP.seq <| LWP.draws mixed (by kernel_rfl) <| kmv rfl <| K.shr rfl rfl (by decide) s3 .plain <| K.indexStr rfl rfl i3 p3 .plain <| kmv rfl <| K.shr rfl rfl (by decide) s2 .plain <| K.bitop (by simp) rfl rfl a2 .plain <| K.indexStr rfl rfl i2 p2 .plain <| kad rfl rfl d1 ?_; refine kmv rfl <| K.shr rfl rfl (by decide) s1 .plain <| K.bitop (by simp) rfl rfl a1 .plain <| K.indexStr rfl rfl i1 p1 .plain <| kad rfl rfl d2 <| kmv rfl <| K.bitop (by simp) rfl rfl a0 .plain <| K.indexStr rfl rfl i0 p0 .plain <| kad rfl rfl d3 <| kcv rfl hcv ?_; refine kas rfl <| RunK.nil <| And.intro (by kernel_rfl) ?_; refine LWP.ret ?_)
  exact ⟨[_], ⟨rfl, trivial⟩, rfl⟩
theorem gLen (a : Nat) (ha : a < 4294967296) : PSpec Tryd.prog X 12 [Ln .u32 (a : Nat)] (Ln .i64 ((idsL a).length : Nat)) := by
  have h1 := andN_32 ha (show allN < 4294967296 by decide)
  have hm : a &&& allN < 4294967296 := Nat.lt_of_le_of_lt Nat.and_le_left ha
  have hO := zOnes X (a &&& allN) hm
  rw [cnt_ids] at hO
  refine PSpec.intro Tryd.func12 rfl (by kernel_rfl) rfl rfl ?_
  intro C
  generalize a &&& allN = c at *
  (refine LWP.seq <| LWP.region (by kernel_rfl) <| kas rfl <| RunK.nil <| LWP.seq <| LWP.region (by kernel_rfl) <| kmv rfl <| K.bitop (by simp) rfl rfl h1 .plain <| kca rfl rfl (hO) <| kas rfl <| RunK.nil <| LWP.ret ?_)
  exact ⟨[_], ⟨rfl, trivial⟩, rfl⟩
end Go.Proofs.YtklofjlbjahnaaaDoor
end
section
namespace Go.Proofs.YtklofjlbjahnaaaDoor
open Go Go.Lg Go.Lg.Fld Go.Lg.Sg
set_option maxRecDepth 100000
variable (X : Nat → Option Obj)
theorem gIds (a : Nat) (ha : a < 4294967296) : MSpec Tryd.prog X 11 [Ln .u32 (a : Nat)] [] (.sv (.one (.slc 1000001 0 (idsL a).length))) [nuB 1000001 (idsL a)] := by
  have hL := gLen X a ha
  have hil := idsTo_len a 24
  rw [show idsTo a 24 = idsL a from rfl] at hil
  have hmk : slcBuild Tryd.prog 25 (idsL a).length = some (List.replicate (idsL a).length (.int .i64 0), 1, 3) := slcBuild_one (by kernel_rfl) (by kernel_rfl) (by omega)
  refine MSpec.intro Tryd.func11 rfl (by kernel_rfl) rfl rfl (by exact (by repeat' (first | refine all_cons_true ?_ ?_ | rfl | exact bytes_inUse | exact vals_inUse | exact mid_inUse rfl))) rfl rfl ?_
  intro C
  have hrl : ∀ l : List Int, ((nuV l).map CV.val).length = l.length * 1 := fun l => by unfold nuV; rw [List.length_map, List.length_map, Nat.mul_one]
  refine LWP.ends ?_
  generalize hM : (idsL a).length = M at *
  (refine LWP.seq <| LWP.region (by kernel_rfl) <| kas rfl <| RunK.nil <| LWP.seq <| LWP.region (by kernel_rfl) <| kmv rfl <| kca rfl rfl hL <| K.makeSlc0 (m := M) (bytes := 8) rfl rfl hmk (by kernel_rfl) (by omega) rfl .plain ?_; refine kas rfl <| RunK.nil <| LWP.seq <| LWP.seq <| LWP.region (by kernel_rfl) <| kas rfl <| RunK.nil <| LWP.block ?_)
  subst hM
  refine LWP.loop (fun m σ => ∃ (i : Nat) (r : Bool), i ≤ 24 ∧ m = 24 - i ∧ σ = ⟨[(0, Ln .u32 (a : Nat)), (3, .sv (.one (.slc 500 0 (idsTo a i).length))), (4, Ln .i64 ((i + 1 : Nat) : Int))], [nuB' 500 (idsTo a i) r], X⟩) 24
    ⟨⟨[(0, Ln .u32 (a : Nat)), (3, .sv (.one (.slc 500 0 (idsTo a 0).length))), (4, Ln .i64 ((0 + 1 : Nat) : Int))], [nuB' 500 (idsTo a 0) true], X⟩, Le.ofR [(500, 7)] (by exact ⟨rfl, rfl, rfl, trivial⟩) (by repeat' (first | exact trivial | refine And.intro ⟨_, rfl, ?_⟩ ?_ | refine And.intro ⟨_, rfl⟩ ?_ | rfl | exact Box.ren_bytes _ _ _ _ | exact Box.ren_vals _ _ _ _ | exact Box.ren_mid rfl)) (by exact rfl) (by exact rfl) (by repeat' (first | refine all_cons_true ?_ ?_ | rfl | exact bytes_inUse | exact vals_inUse | exact mid_inUse rfl)) (by exact rfl) (by exact rfl), 0, true, by omega, rfl, rfl⟩ ?_
  rintro m σ ⟨i, r, hi, rfl, rfl⟩
  have hlen := idsTo_len a i
  by_cases hlt : i < 24
  · have hsn := idsTo_succ a i
    have hle : ((i + 1 : Nat) : Int) ≤ 24 := by omega
    have hH := gHas X a ha ((i + 1 : Nat) : Int)
    have hhb : hasB a ((i + 1 : Nat) : Int) = a.testBit (i + 1) := by
      unfold hasB
      rw [okI_iff.2 ⟨by omega, hle⟩, Bool.true_and]
      rfl
    rw [hhb] at hH
    have hadd : IntKind.i64.wrap (((i + 1 : Nat) : Int) + 1) = ((i + 1 + 1 : Nat) : Int) := by rw [wrap_i64 (by omega)]; omega
    cases hb : a.testBit (i + 1) with
    | false =>
      rw [hb] at hH
      rw [hb, if_neg (by decide), List.append_nil] at hsn
      (refine LWP.seq <| LWP.seq <| LWP.region (by kernel_rfl) <| kmv rfl <| K.leq rfl rfl (decide_eq_true hle) .plain <| RunK.nil <| LWP.condT rfl ?_; refine LWP.skip ?_; refine LWP.seq <| LWP.block <| LWP.seq <| LWP.region (by kernel_rfl) <| kmv rfl <| kmv rfl <| kca rfl rfl hH <| RunK.nil <| LWP.condF rfl ?_; refine LWP.skip ?_; refine LWP.region (by kernel_rfl) <| kmv rfl <| kad rfl rfl hadd <| kas rfl <| RunK.nil ?_)
      exact ⟨_, ⟨[(0, Ln .u32 (a : Nat)), (3, .sv (.one (.slc 500 0 (idsTo a i).length))), (4, Ln .i64 ((i + 1 + 1 : Nat) : Int))], [nuB' 500 (idsTo a i) r], X⟩, by omega, Le.of (by exact ⟨rfl, rfl, rfl, trivial⟩) (by exact ⟨rfl, trivial⟩) (by exact rfl) (by exact rfl) (by repeat' (first | refine all_cons_true ?_ ?_ | rfl | exact bytes_inUse | exact vals_inUse | exact mid_inUse rfl)), i + 1, r, by omega, rfl, by rw [hsn]⟩
    | true =>
      rw [hb] at hH
      rw [hb, if_pos rfl] at hsn
      generalize idsTo a i = l at *
      have hnc : (nuV l).map CV.val ++ [.val (.int .i64 ((i + 1 : Nat) : Int))] = (nuV (l ++ [((i + 1 : Nat) : Int)])).map CV.val := by unfold nuV; rw [List.map_append, List.map_append]; rfl
      have hnl : l.length + 1 = (l ++ [((i + 1 : Nat) : Int)]).length := by rw [List.length_append]; rfl
      (refine LWP.seq <| LWP.seq <| LWP.region (by kernel_rfl) <| kmv rfl <| K.leq rfl rfl (decide_eq_true hle) .plain <| RunK.nil <| LWP.condT rfl ?_; refine LWP.skip ?_; refine LWP.seq <| LWP.block <| LWP.seq <| LWP.region (by kernel_rfl) <| kmv rfl <| kmv rfl <| kca rfl rfl hH <| RunK.nil <| LWP.condT rfl ?_; refine LWP.region (by kernel_rfl) <| kmv rfl <| kmv rfl <| K.buildSlc (zs := [.int .i64 0]) (sz := 1) (e := 3) (cs' := [.val (.int .i64 ((i + 1 : Nat) : Int))]) (by kernel_rfl) rfl rfl rfl rfl rfl rfl .plain <| K.appendSlc (by_ := 8) (e2 := 3) (l2 := [.val (.int .i64 ((i + 1 : Nat) : Int))]) (nl := (l ++ [((i + 1 : Nat) : Int)]).length) (nc := (nuV (l ++ [((i + 1 : Nat) : Int)])).map .val) rfl rfl (hrl l) rfl rfl (Nat.le_refl _) rfl rfl (by kernel_rfl) (by kernel_rfl) (by omega) (by omega) rfl hnl hnc .plain <| kas rfl <| RunK.nil <| LWP.region (by kernel_rfl) <| kmv rfl <| kad rfl rfl hadd <| kas rfl <| RunK.nil ?_)
      exact ⟨_, ⟨[(0, Ln .u32 (a : Nat)), (3, .sv (.one (.slc 500 0 (l ++ [((i + 1 : Nat) : Int)]).length))), (4, Ln .i64 ((i + 1 + 1 : Nat) : Int))], [nuB' 500 (l ++ [((i + 1 : Nat) : Int)]) true], X⟩, by omega, Le.ofR [(500, 18)] (by exact ⟨rfl, rfl, rfl, trivial⟩) (by repeat' (first | exact trivial | refine And.intro ⟨_, rfl, ?_⟩ ?_ | refine And.intro ⟨_, rfl⟩ ?_ | rfl | exact Box.ren_bytes _ _ _ _ | exact Box.ren_vals _ _ _ _ | exact Box.ren_mid rfl)) (by exact rfl) (by exact rfl) (by repeat' (first | refine all_cons_true ?_ ?_ | rfl | exact bytes_inUse | exact vals_inUse | exact mid_inUse rfl)) (by exact rfl) (by exact rfl), i + 1, true, by omega, rfl, by rw [hsn]⟩
  · have e : i = 24 := by omega
    subst e
    rw [show idsTo a 24 = idsL a from rfl]
    (refine LWP.seq <| LWP.seq <| LWP.region (by kernel_rfl) <| kmv rfl <| K.leq rfl rfl (r := false) rfl .plain <| RunK.nil <| LWP.condF rfl ?_; refine LWP.exit <| LWP.seq <| LWP.region (by kernel_rfl) <| kmv rfl <| kas rfl <| RunK.nil <| LWP.ret ?_)
    refine Leads.le (σ' := ⟨[(2, .sv (.one (.slc 500 0 (idsL a).length)))], [(500, some ⟨3, (nuV (idsL a)).map .val, r⟩)], X⟩) (Le.ofR [(500, 500)] (by exact ⟨rfl, trivial⟩) (by repeat' (first | exact trivial | refine And.intro ⟨_, rfl, ?_⟩ ?_ | refine And.intro ⟨_, rfl⟩ ?_ | rfl | exact Box.ren_bytes _ _ _ _ | exact Box.ren_vals _ _ _ _ | exact Box.ren_mid rfl)) (by exact rfl) (by exact rfl) (by repeat' (first | refine all_cons_true ?_ ?_ | rfl | exact bytes_inUse | exact vals_inUse | exact mid_inUse rfl)) (by exact rfl) (by exact rfl)) ?_
    refine Leads.le Le.loose (Leads.done ?_)
    exact ⟨[(1000001, 500)], ⟨[_], ⟨rfl, trivial⟩, rfl⟩, (by repeat' (first | exact trivial | refine And.intro ⟨_, rfl, ?_⟩ ?_ | refine And.intro ⟨_, rfl⟩ ?_ | rfl | exact Box.ren_bytes _ _ _ _ | exact Box.ren_vals _ _ _ _ | exact Box.ren_mid rfl)), rfl, rfl⟩
set_option maxHeartbeats 1600000 in
theorem gOf (ids : List Int) (ad : Option Addr) (cap : Nat) (hin : NuIn X ad ids) (hbig : ids.length < 4611686018427387904) :
    PSpec Tryd.prog X 21 [Vn ad ids.length cap] (.tup [Sn .u32 (ofA ids : Nat), Sn .i64 (ofE ids)]) := by
  refine PSpec.intro Tryd.func21 rfl (by kernel_rfl) rfl rfl ?_
  intro C
  (refine LWP.seq <| LWP.region (by kernel_rfl) <| kas rfl <| kas rfl <| RunK.nil <| LWP.seq <| LWP.region (by kernel_rfl) <| kas rfl <| RunK.nil <| LWP.seq <| LWP.seq <| LWP.region (by kernel_rfl) <| kmv rfl <| K.lenX rfl SliceT.h rfl .plain ?_; refine kmv rfl <| RunK.nil <| LWP.block ?_)
  refine LWP.loop (fun m σ => ∃ i : Nat, i ≤ ids.length ∧ m = ids.length - i ∧ (∀ id ∈ ids.take i, okI id = true) ∧ σ = ⟨[(4, Ln .u32 (ofN (ids.take i) : Nat)), (7, Vn ad ids.length cap), (8, Ln .i64 (ids.length : Nat)), (9, Ln .i64 (i : Nat))], [], X⟩) ids.length
    ⟨⟨[(4, Ln .u32 (ofN (ids.take 0) : Nat)), (7, Vn ad ids.length cap), (8, Ln .i64 (ids.length : Nat)), (9, Ln .i64 (0 : Nat))], [], X⟩, Le.of (by exact ⟨rfl, rfl, rfl, rfl, trivial⟩) (by exact trivial) (by exact rfl) (by exact rfl) (by repeat' (first | refine all_cons_true ?_ ?_ | rfl | exact bytes_inUse | exact vals_inUse | exact mid_inUse rfl)), 0, by omega, rfl, fun id h => by simp at h, rfl⟩ ?_
  rintro m σ ⟨i, hi, rfl, hpre, rfl⟩
  by_cases hlt : i < ids.length
  · obtain ⟨x, hx⟩ : ∃ x, ids[i]? = some x := ⟨_, List.getElem?_eq_getElem hlt⟩
    obtain ⟨blk, off, arr, el, fr, rfl, hX, hc⟩ := hin.at hx
    have hio : off + Int.toNat (i : Int) * 1 = off + i * 1 := by simp
    have hI := zIsId X x
    cases hk : okI x with
    | false =>
      have hno := okIds_no hx hk
      rw [show ofA ids = 0 by unfold ofA; rw [hno]; rfl, show ofE ids = 1 by unfold ofE; rw [hno]; rfl]
      rw [hk] at hI
      (refine LWP.seq <| LWP.region (by kernel_rfl) <| klt rfl rfl (decide_eq_true (by omega)) <| RunK.nil <| LWP.seq <| LWP.condT rfl ?_; refine LWP.skip ?_; refine LWP.seq <| LWP.block <| LWP.seq <| LWP.region (by kernel_rfl) <| K.indexX rfl rfl SliceT.h (by omega) hio .plain <| K.loadX rfl hX rfl hc .plain <| kas rfl <| RunK.nil <| LWP.seq <| LWP.seq <| LWP.region (by kernel_rfl) <| kmv rfl <| kca rfl rfl hI <| K.not rfl rfl .plain ?_; refine RunK.nil <| LWP.condT rfl ?_; refine LWP.seq <| LWP.region (by kernel_rfl) <| kas rfl <| kas rfl <| RunK.nil <| LWP.ret ?_)
      exact ⟨[_, _], ⟨rfl, rfl, trivial⟩, rfl⟩
    | true =>
      have hlt32 := ofN_lt hpre
      have hW := gWith X (ofN (ids.take i)) (by omega) x
      rw [with_snoc hk, ← take_snoc hx] at hW
      rw [hk] at hI
      have hadd : IntKind.i64.wrap (((i : Nat) : Int) + 1) = ((i + 1 : Nat) : Int) := by rw [wrap_i64 (by omega)]; omega
      (refine LWP.seq <| LWP.region (by kernel_rfl) <| klt rfl rfl (decide_eq_true (by omega)) <| RunK.nil <| LWP.seq <| LWP.condT rfl ?_; refine LWP.skip ?_; refine LWP.seq <| LWP.block <| LWP.seq <| LWP.region (by kernel_rfl) <| K.indexX rfl rfl SliceT.h (by omega) hio .plain <| K.loadX rfl hX rfl hc .plain <| kas rfl <| RunK.nil <| LWP.seq <| LWP.seq <| LWP.region (by kernel_rfl) <| kmv rfl <| kca rfl rfl hI <| K.not rfl rfl .plain ?_; refine RunK.nil <| LWP.condF rfl ?_; refine LWP.skip ?_; refine LWP.region (by kernel_rfl) <| kmv rfl <| kmv rfl <| kca rfl rfl hW <| kas rfl <| RunK.nil <| LWP.region (by kernel_rfl) <| kad rfl rfl hadd <| kmv rfl <| RunK.nil ?_)
      exact ⟨_, ⟨[(4, Ln .u32 (ofN (ids.take (i + 1)) : Nat)), (7, Vn (some ⟨blk, off, none⟩) ids.length cap), (8, Ln .i64 (ids.length : Nat)), (9, Ln .i64 (i + 1 : Nat))], [], X⟩, by omega, Le.of (by exact ⟨rfl, rfl, rfl, rfl, trivial⟩) (by exact trivial) (by exact rfl) (by exact rfl) (by repeat' (first | refine all_cons_true ?_ ?_ | rfl | exact bytes_inUse | exact vals_inUse | exact mid_inUse rfl)), i + 1, by omega, rfl, (fun id h => by
        rw [take_snoc hx] at h
        rcases List.mem_append.1 h with h | h
        · exact hpre id h
        · rw [List.mem_singleton.1 h]; exact hk), rfl⟩
  · have e : i = ids.length := by omega
    subst e
    rw [List.take_length] at hpre ⊢
    have hok : okIds ids = true := List.all_eq_true.2 hpre
    rw [show ofA ids = ofN ids from if_pos hok, show ofE ids = 0 from if_pos hok]
    (refine LWP.seq <| LWP.region (by kernel_rfl) <| klt rfl rfl (decide_eq_false (by omega)) <| RunK.nil <| LWP.seq <| LWP.condF rfl ?_; refine LWP.exit <| LWP.seq <| LWP.region (by kernel_rfl) <| kmv rfl <| kas rfl <| kas rfl <| RunK.nil <| LWP.ret ?_)
    exact ⟨[_, _], ⟨rfl, rfl, trivial⟩, rfl⟩
theorem of_lent {S : Nat → Option (Option Box)} {l : List Int} {k : Nat} {el : TypeId} {row : Bool} (hbig : l.length < 4611686018427387904) (hk : S k = some (some ⟨el, (nuV l).map .val, row⟩)) :
    ∀ (Y : Nat → Option Obj) (us : List Value), (∀ b o, X b = some o → Y b = some o) → LentLs S Y [.sv (.one (.slc k 0 l.length))] us → PSpec Tryd.prog Y 21 (us.map toLV) (.tup [Sn .u32 (ofA l : Nat), Sn .i64 (ofE l)]) := by
  intro Y us hY hL
  obtain ⟨u1, us1, rfl, ⟨b, blk, cap2, m, hk', rfl, hc, hfit, hB⟩, rfl⟩ := hL
  rw [hk] at hk'
  simp only [Option.some.injEq] at hk'
  subst hk'
  obtain ⟨arr, fr, us', sp, hYb, hsz, harr, hv⟩ := hB
  have := hv _ rfl
  subst this
  have hN : NuIn Y (some ⟨blk, 0, none⟩) l := by
    have hr := rows_frozen (X := Y) (blk := blk) (arr := arr) (el := el) (fr := fr) (sz := 1) (rows := l.map fun n => [Value.int .i64 n]) (fun r hr => by obtain ⟨x, _, rfl⟩ := List.mem_map.1 hr; rfl) ⟨sp, by rw [nu_flat]; exact harr⟩
    have e : withBlock Y blk (.cells arr el fr) = Y := by
      funext b
      unfold withBlock
      by_cases hb : b = blk
      · rw [if_pos hb, hb, hYb]
      · rw [if_neg hb]
    rw [e] at hr
    exact hr
  exact gOf Y l (some ⟨blk, 0, none⟩) cap2 hN hbig
abbrev ppSt (ad : Option Addr) (n cap : Nat) (ids : List Int) (i : Nat) (Y : Nat → Option Obj) : St :=
  ⟨[(0, Vn ad n cap), (4, .sv (.one (.slc 500 0 n))), (12, Vn ad n cap), (13, Ln .i64 (n : Nat)), (14, Ln .i64 (i : Nat))], [(500, some ⟨3, (nuV (ids.take i) ++ List.replicate (n - i) (Value.int .i64 0)).map .val, false⟩)], Y⟩
set_option maxHeartbeats 3200000 in
theorem gParts (ps : List Pt) (ad : Option Addr) (cap : Nat) (hin : PartsIn X ad ps) (hbig : ps.length ≤ 40) :
    PSpec Tryd.prog X 22 [Vn ad ps.length cap] (.tup [Sn .u32 (prN (ps.map fun p => p.comp) : Nat), Sn .i64 (prE (ps.map fun p => p.comp))]) := by
  have hmk : slcBuild Tryd.prog 25 ps.length = some (List.replicate ps.length (.int .i64 0), 1, 3) := slcBuild_one (by kernel_rfl) (by kernel_rfl) (by omega)
  refine PSpec.intro Tryd.func22 rfl (by kernel_rfl) rfl rfl ?_
  intro C
  have hil : (ps.map fun p => p.comp).length = ps.length := List.length_map _
  have hia : ∀ (i : Nat) (p : Pt), ps[i]? = some p → (ps.map fun p => p.comp)[i]? = some p.comp := fun i p h => by rw [List.getElem?_map, h]; rfl
  generalize (ps.map fun p => p.comp) = ids at *
  (refine LWP.seq <| LWP.region (by kernel_rfl) <| kas rfl <| kas rfl <| RunK.nil <| LWP.seq <| LWP.region (by kernel_rfl) <| kmv rfl <| K.lenX rfl SliceT.h rfl .plain ?_; refine K.makeSlc (m := ps.length) (bytes := 8) rfl rfl hmk (by kernel_rfl) (by omega) rfl rfl .plain <| kas rfl <| RunK.nil <| LWP.seq <| LWP.seq <| LWP.region (by kernel_rfl) <| kmv rfl <| K.lenX rfl SliceT.h rfl .plain ?_; refine kmv rfl <| RunK.nil <| LWP.block ?_)
  refine LWP.loop (fun m σ => ∃ i : Nat, i ≤ ps.length ∧ m = ps.length - i ∧ σ = ppSt ad ps.length cap ids i X) ps.length
    ⟨ppSt ad ps.length cap ids 0 X, Le.ofR [(500, 11)] (by exact ⟨rfl, rfl, rfl, rfl, rfl, trivial⟩) (by repeat' (first | exact trivial | refine And.intro ⟨_, rfl, ?_⟩ ?_ | refine And.intro ⟨_, rfl⟩ ?_ | rfl | exact Box.ren_bytes _ _ _ _ | exact Box.ren_vals _ _ _ _ | exact Box.ren_mid rfl)) (by exact rfl) (by exact rfl) (by repeat' (first | refine all_cons_true ?_ ?_ | rfl | exact bytes_inUse | exact vals_inUse | exact mid_inUse rfl)) (by exact rfl) (by exact rfl), 0, by omega, by omega, rfl⟩ ?_
  rintro m σ ⟨i, hi, rfl, rfl⟩
  by_cases hlt : i < ps.length
  · obtain ⟨p, hp⟩ : ∃ p, ps[i]? = some p := ⟨_, List.getElem?_eq_getElem hlt⟩
    obtain ⟨blk, off, arr, el, fr, vad, vcap, rfl, hX, hsz, hcs, _, _, hN⟩ := hin.get hp
    have hio : off + Int.toNat (i : Int) * 2 = off + i * 2 := by simp
    have hxi := hia i p hp
    have hpl : (nuV (ids.take i)).length = i := by unfold nuV; rw [List.length_map, List.length_take]; omega
    have hix : 0 + Int.toNat (i : Int) * 1 = i := by rw [Int.toNat_natCast]; omega
    have hroom : i + 1 ≤ ((nuV (ids.take i) ++ List.replicate (ps.length - i) (Value.int .i64 0)).map CV.val).length := by rw [List.length_map, List.length_append, hpl, List.length_replicate]; omega
    have hspl : splice ((nuV (ids.take i) ++ List.replicate (ps.length - i) (Value.int .i64 0)).map CV.val) i [.val (.int .i64 p.comp)] = (nuV (ids.take (i + 1)) ++ List.replicate (ps.length - (i + 1)) (Value.int .i64 0)).map CV.val := by
      rw [take_snoc hxi, show ps.length - i = (ps.length - (i + 1)) + 1 by omega, List.replicate_succ, show nuV (ids.take i ++ [p.comp]) = nuV (ids.take i) ++ [.int .i64 p.comp] by unfold nuV; simp]
      unfold splice
      simp only [List.map_append, List.append_assoc]
      have hml : ((nuV (ids.take i)).map CV.val).length = i := by rw [List.length_map, hpl]
      generalize (nuV (ids.take i)).map CV.val = R at *
      rw [← hml, List.take_left, List.drop_length_add_append]
      simp
    have hadd : IntKind.i64.wrap (((i : Nat) : Int) + 1) = ((i + 1 : Nat) : Int) := by rw [wrap_i64 (by omega)]; omega
    (refine LWP.seq <| LWP.region (by kernel_rfl) <| klt rfl rfl (decide_eq_true (by omega)) <| RunK.nil <| LWP.seq <| LWP.condT rfl ?_; refine LWP.skip ?_; refine LWP.seq <| LWP.block <| LWP.seq <| LWP.region (by kernel_rfl) <| kmv rfl <| K.indexX rfl rfl SliceT.h (by omega) hio .plain <| K.loadXagg rfl hX (by kernel_rfl) hsz hcs .plain <| K.alloc rfl .plain ?_; refine kas rfl <| K.storeAll rfl rfl rfl rfl rfl rfl .plain ?_; refine RunK.nil <| LWP.region (by kernel_rfl) <| kmv rfl <| kmv rfl <| kfa rfl rfl ?_; refine kl1 rfl rfl rfl <| K.indexSlc rfl rfl (by omega) hix .plain ?_; refine K.store rfl rfl rfl rfl (by kernel_rfl) hroom hspl .plain <| RunK.nil <| LWP.region (by kernel_rfl) <| kad rfl rfl hadd <| kmv rfl <| RunK.nil ?_)
    exact ⟨_, ppSt (some ⟨blk, off, none⟩) ps.length cap ids (i + 1) X, by omega, Le.of (by exact ⟨rfl, rfl, rfl, rfl, rfl, trivial⟩) (by exact ⟨rfl, trivial⟩) (by exact rfl) (by exact rfl) (by repeat' (first | refine all_cons_true ?_ ?_ | rfl | exact bytes_inUse | exact vals_inUse | exact mid_inUse rfl)), i + 1, by omega, rfl, rfl⟩
  · have e : i = ps.length := by omega
    subst e
    unfold ppSt
    rw [← hil, List.take_length, Nat.sub_self, List.replicate_zero, List.append_nil]
    have hO : ∀ {S : Nat → Option (Option Box)} {k : Nat} {el : TypeId} {row : Bool}, S k = some (some ⟨el, (nuV ids).map .val, row⟩) → ∀ (Y : Nat → Option Obj) (us : List Value), (∀ b o, X b = some o → Y b = some o) → LentLs S Y [.sv (.one (.slc k 0 ids.length))] us → PSpec Tryd.prog Y 21 (us.map toLV) (.tup [Sn .u32 (ofA ids : Nat), Sn .i64 (ofE ids)]) := fun hk => of_lent X (l := ids) (by omega) hk
    cases hk : okIds ids with
    | false =>
      have hE : ofE ids = 1 := by unfold ofE; rw [hk]; rfl
      have hA : ofA ids = 0 := by unfold ofA; rw [hk]; rfl
      rw [hE, hA] at hO
      have hP : prE ids = 1 := by unfold prE; rw [hk]; rfl
      rw [show prN ids = 0 by unfold prN; rw [hP]; rfl, hP]
      (refine LWP.seq <| LWP.region (by kernel_rfl) <| klt rfl rfl (decide_eq_false (by omega)) <| RunK.nil <| LWP.seq <| LWP.condF rfl ?_; refine LWP.exit <| LWP.seq <| LWP.region (by kernel_rfl) <| kmv rfl <| K.callL [500] rfl rfl rfl (hO rfl) .plain ?_; refine kmv rfl <| kex rfl rfl <| kex rfl rfl <| kas rfl <| kas rfl <| RunK.nil <| LWP.seq <| LWP.seq <| LWP.region (by kernel_rfl) <| kmv rfl <| keq rfl rfl (r := false) rfl <| kmv rfl <| RunK.passed rfl rfl rfl <| RunK.passed rfl rfl rfl ?_; refine RunK.passed rfl rfl rfl <| RunK.passed rfl rfl rfl <| RunK.passed rfl rfl rfl <| kpf rfl rfl <| RunK.nil <| LWP.condF rfl ?_; refine LWP.skip ?_; refine LWP.seq <| LWP.region (by kernel_rfl) <| kmv rfl <| kmv rfl <| kas rfl <| kas rfl <| RunK.nil <| LWP.ret ?_)
      exact ⟨[_, _], ⟨rfl, rfl, trivial⟩, rfl⟩
    | true =>
      have hE : ofE ids = 0 := if_pos hk
      have hA : ofA ids = ofN ids := if_pos hk
      rw [hE, hA] at hO
      have hok : ∀ id ∈ ids, okI id = true := List.all_eq_true.1 hk
      have hlt := ofN_lt hok
      have hL := gLen X (ofN ids) (by omega)
      have hne := twice_len hk
      cases ht : twiceTo ids ids.length with
      | true =>
        have hP : prE ids = 7 := by unfold prE; rw [hk, ht]; rfl
        rw [show prN ids = 0 by unfold prN; rw [hP]; rfl, hP]
        rw [ht] at hne
        generalize (idsL (ofN ids)).length = q at *
        (refine LWP.seq <| LWP.region (by kernel_rfl) <| klt rfl rfl (decide_eq_false (by omega)) <| RunK.nil <| LWP.seq <| LWP.condF rfl ?_; refine LWP.exit <| LWP.seq <| LWP.region (by kernel_rfl) <| kmv rfl <| K.callL [500] rfl rfl rfl (hO rfl) .plain ?_; refine kmv rfl <| kex rfl rfl <| kex rfl rfl <| kas rfl <| kas rfl <| RunK.nil <| LWP.seq <| LWP.seq <| LWP.region (by kernel_rfl) <| kmv rfl <| keq rfl rfl (r := true) rfl <| kmv rfl <| gmv rfl rfl rfl <| gca rfl rfl hL rfl rfl ?_; refine gmv rfl rfl rfl <| K.lenX rfl SliceT.h rfl (.taken rfl rfl) ?_; refine K.neq rfl rfl hne (.taken rfl rfl) ?_; refine kpt rfl rfl <| RunK.nil <| LWP.condT rfl ?_; refine LWP.seq <| LWP.region (by kernel_rfl) <| kas rfl <| kas rfl <| RunK.nil <| LWP.ret ?_)
        exact ⟨[_, _], ⟨rfl, rfl, trivial⟩, rfl⟩
      | false =>
        have hP : prE ids = 0 := by unfold prE; rw [hk, ht]; rfl
        rw [show prN ids = ofN ids by unfold prN; rw [hP]; rfl, hP]
        rw [ht] at hne
        generalize (idsL (ofN ids)).length = q at *
        (refine LWP.seq <| LWP.region (by kernel_rfl) <| klt rfl rfl (decide_eq_false (by omega)) <| RunK.nil <| LWP.seq <| LWP.condF rfl ?_; refine LWP.exit <| LWP.seq <| LWP.region (by kernel_rfl) <| kmv rfl <| K.callL [500] rfl rfl rfl (hO rfl) .plain ?_; refine kmv rfl <| kex rfl rfl <| kex rfl rfl <| kas rfl <| kas rfl <| RunK.nil <| LWP.seq <| LWP.seq <| LWP.region (by kernel_rfl) <| kmv rfl <| keq rfl rfl (r := true) rfl <| kmv rfl <| gmv rfl rfl rfl <| gca rfl rfl hL rfl rfl ?_; refine gmv rfl rfl rfl <| K.lenX rfl SliceT.h rfl (.taken rfl rfl) ?_; refine K.neq rfl rfl hne (.taken rfl rfl) ?_; refine kpt rfl rfl <| RunK.nil <| LWP.condF rfl ?_; refine LWP.skip ?_; refine LWP.seq <| LWP.region (by kernel_rfl) <| kmv rfl <| kmv rfl <| kas rfl <| kas rfl <| RunK.nil <| LWP.ret ?_)
        exact ⟨[_, _], ⟨rfl, rfl, trivial⟩, rfl⟩
end Go.Proofs.YtklofjlbjahnaaaDoor
end
section
namespace Go.Proofs.YtklofjlbjahnaaaDoor
open Go Go.Lg Go.Lg.Fld Go.Lg.Sg
set_option maxRecDepth 100000
variable (X : Nat → Option Obj)
theorem zItoa (n : Nat) (h1 : n < 100) : PSpec Tryd.prog X 33 [Ln .i64 (n : Nat)] (Ls (Lib.itoa (n : Nat))) :=
  PSpec.ofBelow (vals := [.int .i64 (n : Nat)]) (v := .string ⟨(Lib.itoa (n : Nat)).toArray⟩) (by kernel_rfl) rfl rfl (fun w _ => (Tryd.strconv_Itoa_small n h1 w).mono fun _ _ ⟨he, hw⟩ => ⟨by rw [Lib.itoa_nonneg]; exact he, by rw [hw]; exact Go.RowKit.Below.refl _ _⟩)
theorem zIndex (l : List UInt8) : PSpec Tryd.prog X 41 [Ls l, Ls [43]] (Ln .i64 (Lib.indexByte l 43)) :=
  PSpec.ofBelow (vals := [.string ⟨l.toArray⟩, .string ⟨#[43]⟩]) (v := .int .i64 (Lib.indexByte l 43)) (by kernel_rfl) rfl rfl (fun w _ => (Tryd.stringslite_Index_one ⟨l.toArray⟩ 43 w).mono fun _ _ ⟨he, hw⟩ => ⟨he, by rw [hw]; exact Go.RowKit.Below.refl _ _⟩)
theorem zCutIn (l : List UInt8) (hb : l.length < 4611686018427387904) : PSpec Tryd.prog X 36 [Ls l, Ls [43]] (.tup [Ss (cutW l), Ss (cutR l), Sb (cutM l)]) := by
  have hI := zIndex X l
  refine PSpec.intro Tryd.func36 rfl (by kernel_rfl) rfl rfl ?_
  intro C
  rcases cut_cases l with ⟨h1, h2, h3, _, h5⟩ | ⟨h1, o, h2, ho, h3, h4, _, _, _⟩
  · rw [h1, h2, h3]
    rw [h5] at hI
    (refine LWP.seq <| LWP.region (by kernel_rfl) <| kas rfl <| kas rfl <| kas rfl <| RunK.nil <| LWP.seq <| LWP.seq <| LWP.region (by kernel_rfl) <| kmv rfl <| kmv rfl <| kca rfl rfl hI <| kas rfl <| RunK.nil ?_; refine LWP.seq <| LWP.region (by kernel_rfl) <| kmv rfl <| K.geq rfl rfl (r := false) rfl .plain <| RunK.nil <| LWP.condF rfl ?_; refine LWP.skip ?_; refine LWP.seq <| LWP.region (by kernel_rfl) <| kmv rfl <| kas rfl <| kas rfl <| kas rfl <| RunK.nil <| LWP.ret ?_)
    exact ⟨[_, _, _], ⟨rfl, rfl, rfl, trivial⟩, rfl⟩
  · rw [h1, h3, h4]
    rw [h2] at hI
    have hlen : (⟨l.toArray⟩ : ByteArray).size = l.length := rfl
    have c1 : (⟨l.toArray⟩ : ByteArray).extract 0 o = ⟨(l.take o).toArray⟩ := by rw [str_cut]; simp
    have c2 : (⟨l.toArray⟩ : ByteArray).extract (o + 1) l.length = ⟨(l.drop (o + 1)).toArray⟩ := by rw [str_cut, List.take_of_length_le (by rw [List.length_drop]; omega)]
    have hadd : IntKind.i64.wrap (((o : Nat) : Int) + (((⟨([43] : List UInt8).toArray⟩ : ByteArray).size : Nat) : Int)) = ((o + 1 : Nat) : Int) := by
      show IntKind.i64.wrap ((o : Int) + 1) = _
      rw [wrap_i64 (by omega)]
      omega
    (refine LWP.seq <| LWP.region (by kernel_rfl) <| kas rfl <| kas rfl <| kas rfl <| RunK.nil <| LWP.seq <| LWP.seq <| LWP.region (by kernel_rfl) <| kmv rfl <| kmv rfl <| kca rfl rfl hI <| kas rfl <| RunK.nil ?_; refine LWP.seq <| LWP.region (by kernel_rfl) <| kmv rfl <| K.geq rfl rfl (decide_eq_true (by omega)) .plain <| RunK.nil <| LWP.condT rfl ?_; refine LWP.seq <| LWP.draws mixed (by kernel_rfl) <| kmv rfl <| kmv rfl <| K.sliceStr (l := 0) (h := o) (kl := .i64) (kh := .i64) rfl StrT.u rfl rfl ⟨(by omega), (by rw [hlen]; omega)⟩ c1 .plain <| kmv rfl <| kmv rfl <| kmv rfl <| kln rfl <| kad rfl rfl hadd <| K.sliceStr (l := o + 1) (h := l.length) (kl := .i64) (kh := .i64) rfl StrT.u rfl hlen.symm ⟨(by omega), (by rw [hlen]; omega)⟩ c2 .plain <| kas rfl <| kas rfl <| kas rfl ?_; refine RunK.nil <| And.intro (by kernel_rfl) ?_; refine LWP.ret ?_)
    exact ⟨[_, _, _], ⟨rfl, rfl, rfl, trivial⟩, rfl⟩
theorem zCut (l : List UInt8) (hb : l.length < 4611686018427387904) : PSpec Tryd.prog X 31 [Ls l, Ls [43]] (.tup [Ss (cutW l), Ss (cutR l), Sb (cutM l)]) := by
  have hI := zCutIn X l hb
  refine PSpec.intro Tryd.func31 rfl (by kernel_rfl) rfl rfl ?_
  intro C
  generalize cutW l = w at *
  generalize cutR l = q at *
  generalize cutM l = m at *
  (refine LWP.seq <| LWP.region (by kernel_rfl) <| kas rfl <| kas rfl <| kas rfl <| RunK.nil <| LWP.seq <| LWP.region (by kernel_rfl) <| kmv rfl <| kmv rfl <| kca rfl rfl hI <| kex rfl rfl <| kex rfl rfl <| kex rfl rfl ?_; refine kas rfl <| kas rfl <| kas rfl <| RunK.nil <| LWP.ret ?_)
  exact ⟨[_, _, _], ⟨rfl, rfl, rfl, trivial⟩, rfl⟩
theorem zIdOf (s : List UInt8) : PSpec Tryd.prog X 32 [Ls s] (Ln .i64 (idW s)) := by
  refine PSpec.intro Tryd.func32 rfl (by kernel_rfl) rfl rfl ?_
  intro C
  (refine LWP.seq <| LWP.region (by kernel_rfl) <| kas rfl <| RunK.nil <| LWP.seq <| LWP.seq <| LWP.region (by kernel_rfl) <| kas rfl <| RunK.nil <| LWP.block ?_)
  refine LWP.loop (fun m σ => ∃ i : Nat, i ≤ 24 ∧ m = 24 - i ∧ (∀ j : Nat, j < i → Lib.itoa ((j + 1 : Nat) : Int) ≠ s) ∧ σ = ⟨[(0, Ls s), (3, Ln .i64 ((i + 1 : Nat) : Int))], [], X⟩) 24
    ⟨⟨[(0, Ls s), (3, Ln .i64 ((0 + 1 : Nat) : Int))], [], X⟩, Le.of (by exact ⟨rfl, rfl, trivial⟩) (by exact trivial) (by exact rfl) (by exact rfl) (by repeat' (first | refine all_cons_true ?_ ?_ | rfl | exact bytes_inUse | exact vals_inUse | exact mid_inUse rfl)), 0, by omega, rfl, fun j h => absurd h (by omega), rfl⟩ ?_
  rintro m σ ⟨i, hi, rfl, hpre, rfl⟩
  by_cases hlt : i < 24
  · have hle : ((i + 1 : Nat) : Int) ≤ 24 := by omega
    have hD := zItoa X (i + 1) (by omega)
    have hadd : IntKind.i64.wrap (((i + 1 : Nat) : Int) + 1) = ((i + 1 + 1 : Nat) : Int) := by rw [wrap_i64 (by omega)]; omega
    by_cases he : Lib.itoa ((i + 1 : Nat) : Int) = s
    · rw [idW_of ⟨by omega, hle⟩ he]
      have heq : (Lib.itoa ((i + 1 : Nat) : Int) == s) = true := beq_iff_eq.2 he
      generalize Lib.itoa ((i + 1 : Nat) : Int) = t at *
      (refine LWP.seq <| LWP.seq <| LWP.region (by kernel_rfl) <| kmv rfl <| K.leq rfl rfl (decide_eq_true hle) .plain <| RunK.nil <| LWP.condT rfl ?_; refine LWP.skip ?_; refine LWP.seq <| LWP.block <| LWP.seq <| LWP.region (by kernel_rfl) <| kmv rfl <| kca rfl rfl hD <| kmv rfl <| kse rfl rfl (strs_eq (r := true) heq) <| RunK.nil <| LWP.condT rfl ?_; refine LWP.seq <| LWP.region (by kernel_rfl) <| kmv rfl <| kas rfl <| RunK.nil <| LWP.ret ?_)
      exact ⟨[_], ⟨rfl, trivial⟩, rfl⟩
    · have heq : (Lib.itoa ((i + 1 : Nat) : Int) == s) = false := beq_eq_false_iff_ne.2 he
      have hnext : ∀ j : Nat, j < i + 1 → Lib.itoa ((j + 1 : Nat) : Int) ≠ s := fun j hj => by
        by_cases e : j = i
        · rw [e]; exact he
        · exact hpre j (by omega)
      generalize Lib.itoa ((i + 1 : Nat) : Int) = t at *
      (refine LWP.seq <| LWP.seq <| LWP.region (by kernel_rfl) <| kmv rfl <| K.leq rfl rfl (decide_eq_true hle) .plain <| RunK.nil <| LWP.condT rfl ?_; refine LWP.skip ?_; refine LWP.seq <| LWP.block <| LWP.seq <| LWP.region (by kernel_rfl) <| kmv rfl <| kca rfl rfl hD <| kmv rfl <| kse rfl rfl (strs_eq (r := false) heq) <| RunK.nil <| LWP.condF rfl ?_; refine LWP.skip ?_; refine LWP.region (by kernel_rfl) <| kmv rfl <| kad rfl rfl hadd <| kas rfl <| RunK.nil ?_)
      exact ⟨_, ⟨[(0, Ls s), (3, Ln .i64 ((i + 1 + 1 : Nat) : Int))], [], X⟩, by omega, Le.of (by exact ⟨rfl, rfl, trivial⟩) (by exact trivial) (by exact rfl) (by exact rfl) (by repeat' (first | refine all_cons_true ?_ ?_ | rfl | exact bytes_inUse | exact vals_inUse | exact mid_inUse rfl)), i + 1, by omega, rfl, hnext, rfl⟩
  · have e : i = 24 := by omega
    subst e
    rw [idW_no hpre]
    (refine LWP.seq <| LWP.seq <| LWP.region (by kernel_rfl) <| kmv rfl <| K.leq rfl rfl (r := false) rfl .plain <| RunK.nil <| LWP.condF rfl ?_; refine LWP.exit <| LWP.seq <| LWP.region (by kernel_rfl) <| kas rfl <| RunK.nil <| LWP.ret ?_)
    exact ⟨[_], ⟨rfl, trivial⟩, rfl⟩
abbrev paSt (ids : List Int) (l : List UInt8) (more : Bool) (Y : Nat → Option Obj) : St := ⟨[(4, Ln .u32 (ofN ids : Nat)), (5, Ln .i64 (lastI ids)), (6, Ls l), (7, Lb more)], [], Y⟩
set_option maxHeartbeats 1600000 in
theorem gParse (s : List UInt8) (hs : s.length ≤ 100) : PSpec Tryd.prog X 24 [Ls s] (.tup [Sn .u32 ((parT s).1 : Nat), Sn .i64 (parE s)]) := by
  refine PSpec.intro Tryd.func24 rfl (by kernel_rfl) rfl rfl ?_
  intro C
  by_cases h45 : s = [45]
  · have hp : parseA s = some 0 := if_pos h45
    rw [parT_yes hp, show parE s = 0 by unfold parE; rw [hp]; rfl]
    (refine LWP.seq <| LWP.region (by kernel_rfl) <| kas rfl <| kas rfl <| RunK.nil <| LWP.seq <| LWP.seq <| LWP.region (by kernel_rfl) <| kmv rfl <| kse rfl rfl (strs_eq (r := true) (by rw [h45]; rfl)) <| RunK.nil <| LWP.condT rfl ?_; refine LWP.seq <| LWP.region (by kernel_rfl) <| kas rfl <| kas rfl <| RunK.nil <| LWP.ret ?_)
    exact ⟨[_, _], ⟨rfl, rfl, trivial⟩, rfl⟩
  have hne : (s == [45]) = false := beq_eq_false_iff_ne.2 h45
  (refine LWP.seq <| LWP.region (by kernel_rfl) <| kas rfl <| kas rfl <| RunK.nil <| LWP.seq <| LWP.seq <| LWP.region (by kernel_rfl) <| kmv rfl <| kse rfl rfl (strs_eq (r := false) hne) <| RunK.nil <| LWP.condF rfl ?_; refine LWP.skip ?_; refine LWP.seq <| LWP.region (by kernel_rfl) <| kas rfl <| kas rfl <| RunK.nil <| LWP.seq <| LWP.seq <| LWP.region (by kernel_rfl) <| kmv rfl <| kas rfl <| kas rfl <| RunK.nil <| LWP.block ?_)
  refine LWP.loop (fun m σ => ∃ (ids : List Int) (l : List UInt8) (more : Bool), (∀ x ∈ ids, okI x = true) ∧ l.length ≤ s.length ∧ ((more = true ∧ m = l.length + 1 ∧ Unread s ids l) ∨ (more = false ∧ m = 0 ∧ parseA s = some (ofN ids))) ∧ σ = paSt ids l more X) (s.length + 1)
    ⟨paSt [] s true X, Le.of (by exact ⟨rfl, rfl, rfl, rfl, trivial⟩) (by exact trivial) (by exact rfl) (by exact rfl) (by repeat' (first | refine all_cons_true ?_ ?_ | rfl | exact bytes_inUse | exact vals_inUse | exact mid_inUse rfl)), [], s, true, (fun x h => by cases h), Nat.le_refl _, .inl ⟨rfl, rfl, rfl⟩, rfl⟩ ?_
  rintro m σ ⟨ids, l, more, hok, hll, hcase, rfl⟩
  rcases hcase with ⟨rfl, rfl, hL⟩ | ⟨rfl, rfl, hp⟩
  · have hl0 : 0 ≤ lastI ids := by
      unfold lastI
      cases hg : ids.getLast? with
      | none => exact Int.le_refl _
      | some y =>
        have := okI_iff.1 (hok y (List.mem_of_getLast? hg))
        show 0 ≤ y
        omega
    have hC := zCut X l (by omega)
    have hD := zIdOf X (cutW l)
    have hN := ofN_lt hok
    by_cases hle : idW (cutW l) ≤ lastI ids
    · have hp : parseA s = none := by
        rcases cut_cases l with ⟨h1, h2, h3, h4, _⟩ | ⟨h1, o, _, _, _, _, h5, h6, _⟩
        · refine hL.no h45 ?_
          rw [h2] at hle
          rw [word_sep hok h4, if_pos hle]
        · refine hL.no h45 ?_
          rw [h5, left_plus hok h6, if_pos hle]
      rw [parT_no hp, show parE s = 4 by unfold parE; rw [hp]; rfl]
      generalize idW (cutW l) = id at *
      generalize cutW l = w at *
      generalize cutR l = q at *
      generalize cutM l = mm at *
      (refine LWP.seq <| LWP.seq <| LWP.region (by kernel_rfl) <| kmv rfl <| RunK.nil <| LWP.condT rfl ?_; refine LWP.skip ?_; refine LWP.block <| LWP.seq <| LWP.region (by kernel_rfl) <| kas rfl <| RunK.nil <| LWP.seq <| LWP.region (by kernel_rfl) <| kmv rfl <| kca rfl rfl hC <| kmv rfl <| kex rfl rfl <| kex rfl rfl <| kex rfl rfl <| kas rfl ?_; refine kas rfl <| kas rfl <| RunK.nil <| LWP.seq <| LWP.region (by kernel_rfl) <| kmv rfl <| kca rfl rfl hD <| kas rfl <| RunK.nil <| LWP.seq <| LWP.seq <| LWP.region (by kernel_rfl) <| kmv rfl <| kmv rfl ?_; refine K.leq rfl rfl (decide_eq_true hle) .plain <| RunK.nil <| LWP.condT rfl ?_; refine LWP.seq <| LWP.region (by kernel_rfl) <| kas rfl <| kas rfl <| RunK.nil <| LWP.ret ?_)
      exact ⟨[_, _], ⟨rfl, rfl, trivial⟩, rfl⟩
    · have hk : okI (idW (cutW l)) = true := by
        rcases idW_range (cutW l) with h0 | ⟨h1, h2, _⟩
        · omega
        · exact okI_iff.2 ⟨h1, h2⟩
      have hW := gWith X (ofN ids) (by omega) (idW (cutW l))
      rw [with_snoc hk] at hW
      have hls := lastI_snoc ids (idW (cutW l))
      have hok2 : ∀ x ∈ ids ++ [idW (cutW l)], okI x = true := fun x hx => by
        rcases List.mem_append.1 hx with h | h
        · exact hok x h
        · rw [List.mem_singleton.1 h]; exact hk
      have hnx : (cutR l).length ≤ s.length ∧ ((cutM l = true ∧ (cutR l).length < l.length ∧ Unread s (ids ++ [idW (cutW l)]) (cutR l)) ∨ (cutM l = false ∧ parseA s = some (ofN (ids ++ [idW (cutW l)])))) := by
        rcases cut_cases l with ⟨h1, h2, h3, h4, _⟩ | ⟨h1, o, _, _, _, _, h5, h6, h7⟩
        · refine ⟨by rw [h3]; exact Nat.zero_le _, .inr ⟨h1, ?_⟩⟩
          refine hL.yes h45 ?_
          rw [h2] at hle ⊢
          rw [word_sep hok h4, if_neg hle]
        · refine ⟨by omega, .inl ⟨h1, h7, ?_⟩⟩
          refine Eq.trans hL ?_
          conv => lhs; rw [h5]
          rw [left_plus hok h6, if_neg hle]
      generalize idW (cutW l) = id at *
      generalize cutW l = w at *
      generalize cutR l = q at *
      generalize cutM l = mm at *
      (refine LWP.seq <| LWP.seq <| LWP.region (by kernel_rfl) <| kmv rfl <| RunK.nil <| LWP.condT rfl ?_; refine LWP.skip ?_; refine LWP.block <| LWP.seq <| LWP.region (by kernel_rfl) <| kas rfl <| RunK.nil <| LWP.seq <| LWP.region (by kernel_rfl) <| kmv rfl <| kca rfl rfl hC <| kmv rfl <| kex rfl rfl <| kex rfl rfl <| kex rfl rfl <| kas rfl ?_; refine kas rfl <| kas rfl <| RunK.nil <| LWP.seq <| LWP.region (by kernel_rfl) <| kmv rfl <| kca rfl rfl hD <| kas rfl <| RunK.nil <| LWP.seq <| LWP.seq <| LWP.region (by kernel_rfl) <| kmv rfl <| kmv rfl ?_; refine K.leq rfl rfl (decide_eq_false hle) .plain <| RunK.nil <| LWP.condF rfl ?_; refine LWP.skip ?_; refine LWP.region (by kernel_rfl) <| kmv rfl <| kmv rfl <| kca rfl rfl hW <| kmv rfl <| kas rfl <| kas rfl <| RunK.nil ?_)
      have hst : (⟨[(4, Ln .u32 (ofN (ids ++ [id]) : Nat)), (5, Ln .i64 id), (6, Ls q), (7, Lb mm)], [], X⟩ : St) = paSt (ids ++ [id]) q mm X := by unfold paSt; rw [hls]
      rcases hnx with ⟨hq, ⟨rfl, hlt, hL2⟩ | ⟨rfl, hp⟩⟩
      · exact ⟨q.length + 1, ⟨[(4, Ln .u32 (ofN (ids ++ [id]) : Nat)), (5, Ln .i64 id), (6, Ls q), (7, Lb true)], [], X⟩, by omega, Le.of (by exact ⟨rfl, rfl, rfl, rfl, trivial⟩) (by exact trivial) (by exact rfl) (by exact rfl) (by repeat' (first | refine all_cons_true ?_ ?_ | rfl | exact bytes_inUse | exact vals_inUse | exact mid_inUse rfl)), ids ++ [id], q, true, hok2, hq, .inl ⟨rfl, rfl, hL2⟩, hst⟩
      · exact ⟨0, ⟨[(4, Ln .u32 (ofN (ids ++ [id]) : Nat)), (5, Ln .i64 id), (6, Ls q), (7, Lb false)], [], X⟩, by omega, Le.of (by exact ⟨rfl, rfl, rfl, rfl, trivial⟩) (by exact trivial) (by exact rfl) (by exact rfl) (by repeat' (first | refine all_cons_true ?_ ?_ | rfl | exact bytes_inUse | exact vals_inUse | exact mid_inUse rfl)), ids ++ [id], q, false, hok2, hq, .inr ⟨rfl, rfl, hp⟩, hst⟩
  · rw [parT_yes hp, show parE s = 0 by unfold parE; rw [hp]; rfl]
    (refine LWP.seq <| LWP.seq <| LWP.region (by kernel_rfl) <| kmv rfl <| RunK.nil <| LWP.condF rfl ?_; refine LWP.exit <| LWP.seq <| LWP.region (by kernel_rfl) <| kmv rfl <| kas rfl <| kas rfl <| RunK.nil <| LWP.ret ?_)
    exact ⟨[_, _], ⟨rfl, rfl, trivial⟩, rfl⟩
end Go.Proofs.YtklofjlbjahnaaaDoor
end
section
namespace Go.Lg.Col
open Go Go.Lg Go.RowKit
abbrev Ext (X Y : Nat → Option Obj) : Prop := ∀ b o, X b = some o → Y b = some o
abbrev strV (l : List UInt8) : Value := .string ⟨l.toArray⟩
def txV (L : List (List UInt8)) : List Value := L.map strV
theorem txV_len (L : List (List UInt8)) : (txV L).length = L.length := List.length_map _
theorem more {X Y : Nat → Option Obj} (hXY : Ext X Y) {ad : Option Addr} {vs : List Value} (h : OneIn X ad vs) : OneIn Y ad vs := fun i v hi => by
  obtain ⟨blk, off, arr, el, fr, h1, h2, h3⟩ := h i v hi
  exact ⟨blk, off, arr, el, fr, h1, hXY _ _ h2, h3⟩
theorem snoc {α : Type} {l : List α} {i : Nat} {f : α} (h : l[i]? = some f) : l.take (i + 1) = l.take i ++ [f] := by
  obtain ⟨hi, e⟩ := List.getElem?_eq_some_iff.1 h
  rw [List.take_add_one, h]; rfl
end Go.Lg.Col
namespace Go.Proofs.YtklofjlbjahnaaaDoor
open Go Go.Lg Go.Lg.Col
set_option maxRecDepth 100000
variable (X : Nat → Option Obj)
end Go.Proofs.YtklofjlbjahnaaaDoor
end
section
namespace Go.Proofs.YtklofjlbjahnaaaDoor
open Go Go.Lg Go.Lg.Fld Go.Lg.Sg
set_option maxRecDepth 100000
variable (X : Nat → Option Obj)
theorem join_lent {S : Nat → Option (Option Box)} {l : List (List UInt8)} {k : Nat} {el : TypeId} {row : Bool} (hl : l.length ≤ 140737488355328) (hj : (Lib.join l [43]).length ≤ 140737488355328) (hk : S k = some (some ⟨el, (Col.txV l).map .val, row⟩)) :
    ∀ (Y : Nat → Option Obj) (us : List Value), (∀ b o, X b = some o → Y b = some o) → LentLs S Y [.sv (.one (.slc k 0 l.length)), Ls [43]] us → PSpec Tryd.prog Y 34 (us.map toLV) (Ls (Lib.join l [43])) := by
  intro Y us hY hL
  obtain ⟨u1, us1, rfl, ⟨b, blk, cap2, m, hk', rfl, hc, hfit, hB⟩, u2, us2, rfl, h2, rfl⟩ := hL
  have h2 : u2 = .string ⟨([43] : List UInt8).toArray⟩ := h2
  subst h2
  rw [hk] at hk'
  simp only [Option.some.injEq] at hk'
  subst hk'
  obtain ⟨arr, fr, us', sp, hYb, hsz, harr, hv⟩ := hB
  have := hv _ rfl
  subst this
  refine PSpec.ofBelow (vals := [.slice (some ⟨blk, 0, none⟩) l.length cap2, .string ⟨([43] : List UInt8).toArray⟩]) (v := .string ⟨(Lib.join l [43]).toArray⟩) (by kernel_rfl) rfl rfl fun w hX => ?_
  have hb := hX _ _ hYb
  have hbk : blk < w.heap.size := (Array.getElem?_eq_some_iff.1 hb).1
  have hcells : ∀ (j : Nat) (x : ByteArray), (l.map fun t => (⟨t.toArray⟩ : ByteArray))[j]? = some x → w.cell? ⟨blk, 0 + j, none⟩ = some (.string x) := fun j x hx => by
    rw [List.getElem?_map] at hx
    cases ht : l[j]? with
    | none => rw [ht] at hx; cases hx
    | some t =>
      rw [ht] at hx
      simp only [Option.map_some, Option.some.injEq] at hx
      subst hx
      have hjl := (List.getElem?_eq_some_iff.1 ht).1
      have ha : arr[0 + j]? = some (.string ⟨t.toArray⟩) := by
        rw [Nat.zero_add, ← Array.getElem?_toList, harr, List.getElem?_append_left (by rw [Col.txV_len]; exact hjl)]
        unfold Col.txV
        rw [List.getElem?_map, ht]
        rfl
      simpa [World.cell?, hb] using ha
  have hmap : ((l.map fun t => (⟨t.toArray⟩ : ByteArray)).map fun x => x.data.toList) = l := by rw [List.map_map]; exact List.map_id _
  have h := Tryd.strings_Join blk 0 cap2 (l.map fun t => (⟨t.toArray⟩ : ByteArray)) ⟨([43] : List UInt8).toArray⟩ w hcells hbk (by rw [List.length_map]; exact hl) (by rw [List.length_map]; exact hc) (by rw [hmap]; exact hj)
  rw [hmap, List.length_map] at h
  exact h
abbrev tzSt (l : List Int) (i : Nat) (Y : Nat → Option Obj) : St := ⟨[(4, .sv (.one (.slc 600 0 l.length))), (15, .sv (.one (.slc 500 0 l.length))), (16, Ln .i64 (l.length : Nat)), (17, Ln .i64 (i : Nat))], [(600, some ⟨9, (Col.txV ((l.take i).map Lib.itoa) ++ List.replicate (l.length - i) (Value.string ⟨#[]⟩)).map .val, false⟩), nuB 500 l], Y⟩
set_option maxHeartbeats 1600000 in
theorem gText (a : Nat) (ha : a < 4294967296) : PSpec Tryd.prog X 25 [Ln .u32 (a : Nat)] (Ls (textT a)) := by
  have hI := gIds X a ha
  refine PSpec.intro Tryd.func25 rfl (by kernel_rfl) rfl rfl ?_
  intro C
  have hids : ∀ x ∈ idsL a, 1 ≤ x ∧ x ≤ 24 := idsL_ok
  have hil : (idsL a).length ≤ 24 := idsTo_len a 24
  unfold textT
  generalize idsL a = l at *
  by_cases h0 : l = []
  · rw [if_pos h0]
    subst h0
    (refine LWP.seq <| LWP.region (by kernel_rfl) <| kas rfl <| RunK.nil <| LWP.seq <| LWP.region (by kernel_rfl) <| kmv rfl <| K.callMp [(1000001, 500)] (.sv (.one (.slc 500 0 0))) [nuB 500 []] (hI) rfl rfl (by exact trivial) rfl rfl rfl rfl rfl (by exact (.box rfl rfl .nil)) .plain <| kas rfl <| RunK.nil <| LWP.seq <| LWP.seq <| LWP.region (by kernel_rfl) <| kmv rfl ?_; refine K.lenSlc rfl SliceT.h rfl .plain ?_; refine keq rfl rfl (r := true) rfl <| RunK.nil <| LWP.condT rfl ?_; refine LWP.seq <| LWP.region (by kernel_rfl) <| kas rfl <| RunK.nil <| LWP.ret ?_)
    exact ⟨[_], ⟨rfl, trivial⟩, rfl⟩
  rw [if_neg h0]
  have hpos : 0 < l.length := List.length_pos_iff.2 h0
  have hmk : slcBuild Tryd.prog 60 l.length = some (List.replicate l.length (.string ⟨#[]⟩), 1, 9) := slcBuild_one (by kernel_rfl) (by kernel_rfl) (by omega)
  (refine LWP.seq <| LWP.region (by kernel_rfl) <| kas rfl <| RunK.nil <| LWP.seq <| LWP.region (by kernel_rfl) <| kmv rfl <| K.callMp [(1000001, 500)] (.sv (.one (.slc 500 0 l.length))) [nuB 500 l] (hI) rfl rfl (by exact trivial) rfl rfl rfl rfl rfl (by exact (.box rfl (Box.ren_vals _ _ _ _) .nil)) .plain <| kas rfl <| RunK.nil <| LWP.seq <| LWP.seq <| LWP.region (by kernel_rfl) <| kmv rfl ?_; refine K.lenSlc rfl SliceT.h rfl .plain ?_; refine keq rfl rfl (r := false) (beq_eq_false_iff_ne.2 (by omega)) <| RunK.nil <| LWP.condF rfl ?_; refine LWP.skip ?_; refine LWP.seq <| LWP.region (by kernel_rfl) <| kmv rfl <| K.lenSlc rfl SliceT.h rfl .plain ?_; refine K.makeSlc (m := l.length) (bytes := 16) rfl rfl hmk (by kernel_rfl) (by omega) rfl rfl .plain <| kas rfl <| RunK.nil <| LWP.seq <| LWP.seq <| LWP.region (by kernel_rfl) <| kmv rfl <| K.lenSlc rfl SliceT.h rfl .plain ?_; refine kmv rfl <| RunK.nil <| LWP.block ?_)
  refine LWP.loop (fun m σ => ∃ i : Nat, i ≤ l.length ∧ m = l.length - i ∧ σ = tzSt l i X) l.length
    ⟨tzSt l 0 X, Le.ofR [(600, 14)] (by exact ⟨rfl, rfl, rfl, rfl, trivial⟩) (by repeat' (first | exact trivial | refine And.intro ⟨_, rfl, ?_⟩ ?_ | refine And.intro ⟨_, rfl⟩ ?_ | rfl | exact Box.ren_bytes _ _ _ _ | exact Box.ren_vals _ _ _ _ | exact Box.ren_mid rfl)) (by exact rfl) (by exact rfl) (by repeat' (first | refine all_cons_true ?_ ?_ | rfl | exact bytes_inUse | exact vals_inUse | exact mid_inUse rfl)) (by exact rfl) (by exact rfl), 0, by omega, by omega, rfl⟩ ?_
  rintro m σ ⟨i, hi, rfl, rfl⟩
  by_cases hlt : i < l.length
  · obtain ⟨x, hx⟩ : ∃ x, l[i]? = some x := ⟨_, List.getElem?_eq_getElem hlt⟩
    obtain ⟨hx1, hx2⟩ := hids x (List.mem_of_getElem? hx)
    obtain ⟨n, rfl⟩ : ∃ n : Nat, x = (n : Nat) := ⟨x.toNat, by omega⟩
    have hD := zItoa X n (by omega)
    have hat := nu_at hx
    have hix : 0 + Int.toNat (i : Int) * 1 = i * 1 := by simp
    have hixB : 0 + Int.toNat (i : Int) * 1 = i := by rw [Int.toNat_natCast]; omega
    have hpl : (Col.txV ((l.take i).map Lib.itoa)).length = i := by rw [Col.txV_len, List.length_map, List.length_take]; omega
    have hroom : i + 1 ≤ ((Col.txV ((l.take i).map Lib.itoa) ++ List.replicate (l.length - i) (Value.string ⟨#[]⟩)).map CV.val).length := by rw [List.length_map, List.length_append, hpl, List.length_replicate]; omega
    have hspl : splice ((Col.txV ((l.take i).map Lib.itoa) ++ List.replicate (l.length - i) (Value.string ⟨#[]⟩)).map CV.val) i [.val (.string ⟨(Lib.itoa (n : Nat)).toArray⟩)] = (Col.txV ((l.take (i + 1)).map Lib.itoa) ++ List.replicate (l.length - (i + 1)) (Value.string ⟨#[]⟩)).map CV.val := by
      rw [take_snoc hx, show l.length - i = (l.length - (i + 1)) + 1 by omega, List.replicate_succ, show Col.txV ((l.take i ++ [((n : Nat) : Int)]).map Lib.itoa) = Col.txV ((l.take i).map Lib.itoa) ++ [.string ⟨(Lib.itoa (n : Nat)).toArray⟩] by unfold Col.txV; simp [Col.strV]]
      unfold splice
      simp only [List.map_append, List.append_assoc]
      have hml : ((Col.txV ((l.take i).map Lib.itoa)).map CV.val).length = i := by rw [List.length_map, hpl]
      generalize (Col.txV ((l.take i).map Lib.itoa)).map CV.val = R at *
      rw [← hml, List.take_left, List.drop_length_add_append]
      simp
    have hadd : IntKind.i64.wrap (((i : Nat) : Int) + 1) = ((i + 1 : Nat) : Int) := by rw [wrap_i64 (by omega)]; omega
    generalize Lib.itoa (n : Nat) = t at *
    (refine LWP.seq <| LWP.region (by kernel_rfl) <| klt rfl rfl (decide_eq_true (by omega)) <| RunK.nil <| LWP.seq <| LWP.condT rfl ?_; refine LWP.skip ?_; refine LWP.seq <| LWP.block <| LWP.seq <| LWP.region (by kernel_rfl) <| kmv rfl <| K.indexSlc rfl rfl (by omega) hix .plain ?_; refine kl1 rfl rfl hat <| kas rfl <| kas rfl <| RunK.nil <| LWP.region (by kernel_rfl) <| kmv rfl <| kmv rfl <| kmv rfl <| kca rfl rfl hD <| K.indexSlc rfl rfl (by omega) hixB .plain ?_; refine K.store rfl rfl rfl rfl (by kernel_rfl) hroom hspl .plain <| RunK.nil <| LWP.region (by kernel_rfl) <| kad rfl rfl hadd <| kmv rfl <| RunK.nil ?_)
    exact ⟨_, tzSt l (i + 1) X, by omega, Le.of (by exact ⟨rfl, rfl, rfl, rfl, trivial⟩) (by exact ⟨rfl, rfl, trivial⟩) (by exact rfl) (by exact rfl) (by repeat' (first | refine all_cons_true ?_ ?_ | rfl | exact bytes_inUse | exact vals_inUse | exact mid_inUse rfl)), i + 1, by omega, rfl, rfl⟩
  · have e : i = l.length := by omega
    subst e
    unfold tzSt
    rw [List.take_length, Nat.sub_self, List.replicate_zero, List.append_nil]
    have hjl : (Lib.join (l.map Lib.itoa) [43]).length ≤ 140737488355328 := by
      rw [txF_join]
      have := txF_len3 l hids
      omega
    rw [← txF_join]
    have hLl : (l.map Lib.itoa).length = l.length := List.length_map _
    generalize l.map Lib.itoa = L at *
    have hJ : ∀ {S : Nat → Option (Option Box)} {k : Nat} {el : TypeId} {row : Bool}, S k = some (some ⟨el, (Col.txV L).map .val, row⟩) → ∀ (Y : Nat → Option Obj) (us : List Value), (∀ b o, X b = some o → Y b = some o) → LentLs S Y [.sv (.one (.slc k 0 l.length)), Ls [43]] us → PSpec Tryd.prog Y 34 (us.map toLV) (Ls (Lib.join L [43])) := fun hk => by
      have h := join_lent X (l := L) (by omega) hjl hk
      rw [hLl] at h
      exact h
    generalize Lib.join L [43] = r at *
    (refine LWP.seq <| LWP.region (by kernel_rfl) <| klt rfl rfl (decide_eq_false (by omega)) <| RunK.nil <| LWP.seq <| LWP.condF rfl ?_; refine LWP.exit <| LWP.seq <| LWP.region (by kernel_rfl) <| kmv rfl <| K.callL [600] rfl rfl rfl (hJ rfl) .plain ?_; refine kas rfl <| RunK.nil <| LWP.ret ?_)
    exact ⟨[_], ⟨rfl, trivial⟩, rfl⟩
end Go.Proofs.YtklofjlbjahnaaaDoor
end
section
namespace Go.Proofs.YtklofjlbjahnaaaDoor
open Go Go.Lg Go.Lg.Fld Go.Lg.Sg
set_option maxRecDepth 100000
variable (X : Nat → Option Obj)
theorem has_spec (l : List Int) (ad : Option Addr) (cap : Nat) (n : Int) (hin : NuIn X ad l) (hbig : l.length < 4611686018427387904) :
    PSpec Tryd.prog X 9 [Vn ad l.length cap, Ln .i64 n] (Lb (l.any fun x => x == n)) := by
  refine PSpec.intro Tryd.func9 rfl (by kernel_rfl) rfl rfl ?_
  intro C
  (refine LWP.seq <| LWP.region (by kernel_rfl) <| kas rfl <| RunK.nil <| LWP.seq <| LWP.seq <| LWP.region (by kernel_rfl) <| kas rfl <| RunK.nil <| LWP.block ?_)
  refine LWP.loop (fun m σ => ∃ i : Nat, i ≤ l.length ∧ m = l.length - i ∧ (∀ (j : Nat) (y : Int), j < i → l[j]? = some y → (y == n) = false) ∧ σ = ⟨[(0, Vn ad l.length cap), (1, Ln .i64 n), (5, Ln .i64 (i : Nat))], [], X⟩) l.length
    ⟨⟨[(0, Vn ad l.length cap), (1, Ln .i64 n), (5, Ln .i64 (0 : Nat))], [], X⟩, Le.of (by exact ⟨rfl, rfl, rfl, trivial⟩) (by exact trivial) (by exact rfl) (by exact rfl) (by repeat' (first | refine all_cons_true ?_ ?_ | rfl | exact bytes_inUse | exact vals_inUse | exact mid_inUse rfl)), 0, by omega, rfl, fun j y hj => absurd hj (by omega), rfl⟩ ?_
  rintro m σ ⟨i, hi, rfl, hpre, rfl⟩
  by_cases hlt : i < l.length
  · obtain ⟨x, hx⟩ : ∃ x, l[i]? = some x := ⟨_, List.getElem?_eq_getElem hlt⟩
    obtain ⟨blk, off, arr, el, fr, rfl, hX, hc⟩ := hin.at hx
    have hio : off + Int.toNat (i : Int) * 1 = off + i * 1 := by simp
    cases he : (x == n) with
    | true =>
      rw [show (l.any fun x => x == n) = true from List.any_eq_true.2 ⟨x, List.mem_of_getElem? hx, he⟩]
      (refine LWP.seq <| LWP.seq <| LWP.region (by kernel_rfl) <| kmv rfl <| kmv rfl <| K.lenX rfl SliceT.h rfl .plain ?_; refine klt rfl rfl (decide_eq_true (by omega)) <| RunK.nil <| LWP.condT rfl ?_; refine LWP.skip ?_; refine LWP.seq <| LWP.block <| LWP.seq <| LWP.region (by kernel_rfl) <| kmv rfl <| kmv rfl <| K.indexX rfl rfl SliceT.h (by omega) hio .plain <| K.loadX rfl hX rfl hc .plain <| kmv rfl <| keq rfl rfl he <| RunK.nil <| LWP.condT rfl ?_; refine LWP.seq <| LWP.region (by kernel_rfl) <| kas rfl <| RunK.nil <| LWP.ret ?_)
      exact ⟨[_], ⟨rfl, trivial⟩, rfl⟩
    | false =>
      (refine LWP.seq <| LWP.seq <| LWP.region (by kernel_rfl) <| kmv rfl <| kmv rfl <| K.lenX rfl SliceT.h rfl .plain ?_; refine klt rfl rfl (decide_eq_true (by omega)) <| RunK.nil <| LWP.condT rfl ?_; refine LWP.skip ?_; refine LWP.seq <| LWP.block <| LWP.seq <| LWP.region (by kernel_rfl) <| kmv rfl <| kmv rfl <| K.indexX rfl rfl SliceT.h (by omega) hio .plain <| K.loadX rfl hX rfl hc .plain <| kmv rfl <| keq rfl rfl he <| RunK.nil <| LWP.condF rfl ?_; refine LWP.skip ?_; refine LWP.region (by kernel_rfl) <| kmv rfl <| kad rfl rfl (wrap_i64 (by omega)) <| kas rfl <| RunK.nil ?_)
      exact ⟨_, ⟨[(0, Vn (some ⟨blk, off, none⟩) l.length cap), (1, Ln .i64 n), (5, Ln .i64 (i + 1 : Nat))], [], X⟩, by omega, Le.of (by exact ⟨rfl, rfl, rfl, trivial⟩) (by exact trivial) (by exact rfl) (by exact rfl) (by repeat' (first | refine all_cons_true ?_ ?_ | rfl | exact bytes_inUse | exact vals_inUse | exact mid_inUse rfl)), i + 1, by omega, rfl, (fun j y hj hy => by
        by_cases e : j = i
        · subst e; rw [hx] at hy; cases hy; exact he
        · exact hpre j y (by omega) hy), rfl⟩
  · rw [show (l.any fun x => x == n) = false by
      rw [List.any_eq_false]
      intro y hy
      obtain ⟨j, hj⟩ := List.mem_iff_getElem?.1 hy
      rw [hpre j y (by have := (List.getElem?_eq_some_iff.1 hj).1; omega) hj]
      decide]
    (refine LWP.seq <| LWP.seq <| LWP.region (by kernel_rfl) <| kmv rfl <| kmv rfl <| K.lenX rfl SliceT.h rfl .plain ?_; refine klt rfl rfl (decide_eq_false (by omega)) <| RunK.nil <| LWP.condF rfl ?_; refine LWP.exit <| LWP.seq <| LWP.region (by kernel_rfl) <| kas rfl <| RunK.nil <| LWP.ret ?_)
    exact ⟨[_], ⟨rfl, trivial⟩, rfl⟩
theorem ints_spec (l : List Int) (ad bd : Option Addr) (ca cb : Nat) (h1 : NuIn X ad l) (h2 : NuIn X bd l) (hbig : l.length < 4611686018427387904) :
    PSpec Tryd.prog X 10 [Vn ad l.length ca, Vn bd l.length cb] (Lb true) := by
  refine PSpec.intro Tryd.func10 rfl (by kernel_rfl) rfl rfl ?_
  intro C
  (refine LWP.seq <| LWP.region (by kernel_rfl) <| kas rfl <| RunK.nil <| LWP.seq <| LWP.seq <| LWP.region (by kernel_rfl) <| kmv rfl <| K.lenX rfl SliceT.h rfl .plain ?_; refine kmv rfl <| K.lenX rfl SliceT.h rfl .plain ?_; refine kne rfl rfl (r := false) (by simp) <| RunK.nil <| LWP.condF rfl ?_; refine LWP.skip ?_; refine LWP.seq <| LWP.seq <| LWP.region (by kernel_rfl) <| kas rfl <| RunK.nil <| LWP.block ?_)
  refine LWP.loop (fun m σ => ∃ i : Nat, i ≤ l.length ∧ m = l.length - i ∧ σ = ⟨[(0, Vn ad l.length ca), (1, Vn bd l.length cb), (5, Ln .i64 (i : Nat))], [], X⟩) l.length
    ⟨⟨[(0, Vn ad l.length ca), (1, Vn bd l.length cb), (5, Ln .i64 (0 : Nat))], [], X⟩, Le.of (by exact ⟨rfl, rfl, rfl, trivial⟩) (by exact trivial) (by exact rfl) (by exact rfl) (by repeat' (first | refine all_cons_true ?_ ?_ | rfl | exact bytes_inUse | exact vals_inUse | exact mid_inUse rfl)), 0, by omega, rfl, rfl⟩ ?_
  rintro m σ ⟨i, hi, rfl, rfl⟩
  by_cases hlt : i < l.length
  · obtain ⟨x, hx⟩ : ∃ x, l[i]? = some x := ⟨_, List.getElem?_eq_getElem hlt⟩
    obtain ⟨blk, off, arr, el, fr, rfl, hX, hc⟩ := h1.at hx
    obtain ⟨blk2, off2, arr2, el2, fr2, rfl, hX2, hc2⟩ := h2.at hx
    have hio : off + Int.toNat (i : Int) * 1 = off + i * 1 := by simp
    have hio2 : off2 + Int.toNat (i : Int) * 1 = off2 + i * 1 := by simp
    (refine LWP.seq <| LWP.seq <| LWP.region (by kernel_rfl) <| kmv rfl <| kmv rfl <| K.lenX rfl SliceT.h rfl .plain ?_; refine klt rfl rfl (decide_eq_true (by omega)) <| RunK.nil <| LWP.condT rfl ?_; refine LWP.skip ?_; refine LWP.seq <| LWP.block <| LWP.seq <| LWP.draws mixed (by kernel_rfl) <| kmv rfl <| kmv rfl <| K.indexX rfl rfl SliceT.h (by omega) hio .plain <| K.loadX rfl hX rfl hc .plain <| kmv rfl <| kmv rfl <| K.indexX rfl rfl SliceT.h (by omega) hio2 .plain <| K.loadX rfl hX2 rfl hc2 .plain <| kne rfl rfl (r := false) (by simp) <| RunK.nil ?_; refine And.intro (by kernel_rfl) ?_; refine LWP.condF rfl ?_; refine LWP.skip ?_; refine LWP.region (by kernel_rfl) <| kmv rfl <| kad rfl rfl (wrap_i64 (by omega)) <| kas rfl <| RunK.nil ?_)
    exact ⟨_, ⟨[(0, Vn (some ⟨blk, off, none⟩) l.length ca), (1, Vn (some ⟨blk2, off2, none⟩) l.length cb), (5, Ln .i64 (i + 1 : Nat))], [], X⟩, by omega, Le.of (by exact ⟨rfl, rfl, rfl, trivial⟩) (by exact trivial) (by exact rfl) (by exact rfl) (by repeat' (first | refine all_cons_true ?_ ?_ | rfl | exact bytes_inUse | exact vals_inUse | exact mid_inUse rfl)), i + 1, by omega, rfl, rfl⟩
  · (refine LWP.seq <| LWP.seq <| LWP.region (by kernel_rfl) <| kmv rfl <| kmv rfl <| K.lenX rfl SliceT.h rfl .plain ?_; refine klt rfl rfl (decide_eq_false (by omega)) <| RunK.nil <| LWP.condF rfl ?_; refine LWP.exit <| LWP.seq <| LWP.region (by kernel_rfl) <| kas rfl <| RunK.nil <| LWP.ret ?_)
    exact ⟨[_], ⟨rfl, trivial⟩, rfl⟩
theorem ints_lent {S : Nat → Option (Option Box)} {l : List Int} {ad : Option Addr} {cap k : Nat} {el : TypeId} {row : Bool} (hin : NuIn X ad l) (hbig : l.length < 4611686018427387904) (hk : S k = some (some ⟨el, (nuV l).map .val, row⟩)) :
    ∀ (Y : Nat → Option Obj) (us : List Value), (∀ b o, X b = some o → Y b = some o) → LentLs S Y [.sv (.one (.slc k 0 l.length)), Vn ad l.length cap] us → PSpec Tryd.prog Y 10 (us.map toLV) (Lb true) := by
  intro Y us hY hL
  obtain ⟨u1, us1, rfl, ⟨b, blk, cap2, m, hk', rfl, hc, hfit, hB⟩, u2, us2, rfl, h2, rfl⟩ := hL
  have h2 : u2 = .slice ad l.length cap := h2
  subst h2
  rw [hk] at hk'
  simp only [Option.some.injEq] at hk'
  subst hk'
  obtain ⟨arr, fr, us', sp, hYb, hsz, harr, hv⟩ := hB
  have := hv _ rfl
  subst this
  have hN : NuIn Y (some ⟨blk, 0, none⟩) l := by
    have hr := rows_frozen (X := Y) (blk := blk) (arr := arr) (el := el) (fr := fr) (sz := 1) (rows := l.map fun n => [Value.int .i64 n]) (fun r hr => by obtain ⟨x, _, rfl⟩ := List.mem_map.1 hr; rfl) ⟨sp, by rw [nu_flat]; exact harr⟩
    have e : withBlock Y blk (.cells arr el fr) = Y := by
      funext b
      unfold withBlock
      by_cases hb : b = blk
      · rw [if_pos hb, hb, hYb]
      · rw [if_neg hb]
    rw [e] at hr
    exact hr
  exact ints_spec Y l (some ⟨blk, 0, none⟩) ad cap2 cap hN (hin.mono hY) hbig
end Go.Proofs.YtklofjlbjahnaaaDoor
end
section
namespace Go.Lg.Sg
open Go Go.Lg Go.Lg.Fld
def barePs (ids : List Int) : List Pt := ids.map fun c => ⟨c, []⟩
def ptsV (ids : List Int) : List Value := (ids.map fun c => [Value.int .i64 c, .slice none 0 0]).flatten
theorem barePs_comp (ids : List Int) : (barePs ids).map (fun p => p.comp) = ids := by
  unfold barePs
  rw [List.map_map]
  exact List.map_id' ids
end Go.Lg.Sg
namespace Go.Proofs.YtklofjlbjahnaaaDoor
open Go Go.Lg Go.Lg.Fld Go.Lg.Sg
set_option maxRecDepth 100000
theorem parts_mem {X : Nat → Option Obj} {blk : Nat} {arr : Array Value} {el : TypeId} {fr : Nat × Nat} {ids : List Int} (hX : X blk = some (.cells arr el fr)) (hr : ∀ id ∈ ids, -9223372036854775808 ≤ id ∧ id < 9223372036854775808) (h : ∃ sp, arr.toList = ptsV ids ++ sp) : PartsIn X (some ⟨blk, 0, none⟩) (barePs ids) := by
  obtain ⟨sp, e⟩ := h
  refine ⟨fun i p hp => ?_, fun p hp => ?_⟩
  · unfold barePs at hp
    rw [List.getElem?_map] at hp
    cases hc : ids[i]? with
    | none => rw [hc] at hp; cases hp
    | some c =>
      rw [hc] at hp
      simp only [Option.map_some, Option.some.injEq] at hp
      subst hp
      obtain ⟨h1, h2⟩ := flat_row (sz := 2) (rows := ids.map fun c => [Value.int .i64 c, .slice none 0 0]) (fun r hr => by obtain ⟨x, _, rfl⟩ := List.mem_map.1 hr; rfl) (sp := sp) (i := i) (r := [.int .i64 c, .slice none 0 0]) (by rw [List.getElem?_map, hc]; rfl)
      refine ⟨blk, 0, arr, el, fr, none, 0, rfl, hX, ?_, ?_, fun i r h => by simp at h, fun n hn => by cases hn⟩
      · rw [← Array.length_toList, e]; unfold ptsV; omega
      · rw [e, Nat.zero_add]; exact h2
  · obtain ⟨c, hc, rfl⟩ := List.mem_map.1 hp
    exact hr c hc
variable (X : Nat → Option Obj)
theorem prt_lent {S : Nat → Option (Option Box)} {l : List Int} {k : Nat} {el : TypeId} {row : Bool} (hbig : l.length ≤ 40) (hr : ∀ id ∈ l, -9223372036854775808 ≤ id ∧ id < 9223372036854775808) (hk : S k = some (some ⟨el, (ptsV l).map .val, row⟩)) :
    ∀ (Y : Nat → Option Obj) (us : List Value), (∀ b o, X b = some o → Y b = some o) → LentLs S Y [.sv (.one (.slc k 0 l.length 2))] us → PSpec Tryd.prog Y 22 (us.map toLV) (.tup [Sn .u32 (prN l : Nat), Sn .i64 (prE l)]) := by
  intro Y us hY hL
  obtain ⟨u1, us1, rfl, ⟨b, blk, cap2, m, hk', rfl, hc, hfit, hB⟩, rfl⟩ := hL
  rw [hk] at hk'
  simp only [Option.some.injEq] at hk'
  subst hk'
  obtain ⟨arr, fr, us', sp, hYb, hsz, harr, hv⟩ := hB
  have := hv _ rfl
  subst this
  have h := gParts Y (barePs l) (some ⟨blk, 0, none⟩) cap2 (parts_mem hYb hr ⟨sp, harr⟩) (by unfold barePs; rw [List.length_map]; exact hbig)
  rw [barePs_comp, show (barePs l).length = l.length from List.length_map _] at h
  exact h
theorem text10 : textT 10 = [49, 43, 51] := by
  unfold textT
  rw [show idsL 10 = [1, 3] by decide +kernel, if_neg (by decide)]
  show (([] ++ [] ++ Lib.itoa ((1 : Nat) : Int)) ++ [43]) ++ Lib.itoa ((3 : Nat) : Int) = _
  rw [itoa_digs (by decide), itoa_digs (by decide)]
  decide
set_option maxHeartbeats 3200000 in
theorem awake10_spec : PSpec Tryd.prog X 7 [] (Lb true) := by
  have p1 := gParse X [49, 43, 51] (by decide)
  have p2 := gParse X [51, 43, 49] (by decide)
  rw [show parT [49, 43, 51] = (10, true) by decide +kernel, show parE [49, 43, 51] = 0 by decide +kernel] at p1
  rw [show parT [51, 43, 49] = (0, false) by decide +kernel, show parE [51, 43, 49] = 4 by decide +kernel] at p2
  have t1 := gText X 10 (by decide)
  have t2 := gText X 0 (by decide)
  rw [text10] at t1
  rw [show textT 0 = [45] by decide +kernel] at t2
  have l1 := gLen X 10 (by decide)
  rw [show (idsL 10).length = 2 by decide +kernel] at l1
  have q1 := gHas X 10 (by decide) 3
  have q2 := gHas X 10 (by decide) 2
  rw [show hasB 10 3 = true by decide +kernel] at q1
  rw [show hasB 10 2 = false by decide +kernel] at q2
  refine PSpec.intro Tryd.func7 rfl (by kernel_rfl) rfl rfl ?_
  intro C
  have ho1 : ∀ {S : Nat → Option (Option Box)} {k : Nat} {el : TypeId} {row : Bool}, S k = some (some ⟨el, (nuV [3, 1]).map .val, row⟩) → ∀ (Y : Nat → Option Obj) (us : List Value), (∀ b o, X b = some o → Y b = some o) → LentLs S Y [.sv (.one (.slc k 0 2))] us → PSpec Tryd.prog Y 21 (us.map toLV) (.tup [Sn .u32 (10 : Nat), Sn .i64 0]) := fun hk => by
    have h := of_lent X (l := [3, 1]) (by decide) hk
    rw [show ofA [3, 1] = 10 by decide +kernel, show ofE [3, 1] = 0 by decide +kernel] at h
    exact h
  have ho2 : ∀ {S : Nat → Option (Option Box)} {k : Nat} {el : TypeId} {row : Bool}, S k = some (some ⟨el, (nuV [25]).map .val, row⟩) → ∀ (Y : Nat → Option Obj) (us : List Value), (∀ b o, X b = some o → Y b = some o) → LentLs S Y [.sv (.one (.slc k 0 1))] us → PSpec Tryd.prog Y 21 (us.map toLV) (.tup [Sn .u32 (0 : Nat), Sn .i64 1]) := fun hk => by
    have h := of_lent X (l := [25]) (by decide) hk
    rw [show ofA [25] = 0 by decide +kernel, show ofE [25] = 1 by decide +kernel] at h
    exact h
  have ho3 : ∀ {S : Nat → Option (Option Box)} {k : Nat} {el : TypeId} {row : Bool}, S k = some (some ⟨el, (ptsV [1, 1]).map .val, row⟩) → ∀ (Y : Nat → Option Obj) (us : List Value), (∀ b o, X b = some o → Y b = some o) → LentLs S Y [.sv (.one (.slc k 0 2 2))] us → PSpec Tryd.prog Y 22 (us.map toLV) (.tup [Sn .u32 (0 : Nat), Sn .i64 7]) := fun hk => by
    have h := prt_lent X (l := [1, 1]) (by decide) (by decide) hk
    rw [show prN [1, 1] = 0 by decide +kernel, show prE [1, 1] = 7 by decide +kernel] at h
    exact h
  (refine LWP.seq <| LWP.region (by kernel_rfl) <| kas rfl <| RunK.nil <| LWP.seq <| LWP.region (by kernel_rfl) <| K.buildSlc (zs := [.int .i64 0, .int .i64 0]) (sz := 1) (e := 3) (cs' := (nuV [3, 1]).map .val) (by kernel_rfl) rfl rfl rfl rfl rfl rfl .plain <| K.callL [12] rfl rfl rfl (ho1 rfl) .plain ?_; refine kmv rfl <| kex rfl rfl <| kex rfl rfl <| kas rfl <| kas rfl <| RunK.nil <| LWP.seq <| LWP.region (by kernel_rfl) <| kca rfl rfl p1 <| kmv rfl <| kex rfl rfl <| kex rfl rfl <| kas rfl <| kas rfl ?_; refine RunK.nil <| LWP.seq <| LWP.region (by kernel_rfl) <| kca rfl rfl p2 <| kmv rfl <| kex rfl rfl <| kex rfl rfl <| kas rfl <| kas rfl <| RunK.nil <| LWP.seq <| LWP.region (by kernel_rfl) <| K.buildSlc (zs := [.int .i64 0]) (sz := 1) (e := 3) (cs' := (nuV [25]).map .val) (by kernel_rfl) rfl rfl rfl rfl rfl rfl .plain <| K.callL [25] rfl rfl rfl (ho2 rfl) .plain ?_; refine kmv rfl <| kex rfl rfl <| kex rfl rfl <| kas rfl <| kas rfl <| RunK.nil <| LWP.seq <| LWP.region (by kernel_rfl) <| K.build rfl rfl (by exact rfl) (by exact nl2 rfl rfl rfl) .plain ?_; refine K.build rfl rfl (by exact rfl) (by exact nl2 rfl rfl rfl) .plain ?_; refine K.buildSlc (zs := (List.replicate 2 [Value.int .i64 0, .slice none 0 0]).flatten) (sz := 2) (e := 45) (cs' := (ptsV [1, 1]).map .val) (by kernel_rfl) rfl rfl rfl rfl rfl rfl .plain <| K.callL [32] rfl rfl rfl (ho3 rfl) .plain ?_; refine kmv rfl <| kex rfl rfl <| kex rfl rfl <| kas rfl <| kas rfl <| RunK.nil <| LWP.seq <| LWP.region (by kernel_rfl) <| kmv rfl <| keq rfl rfl (beq_iff_eq.2 (by omega)) <| kmv rfl <| gmv rfl rfl rfl <| K.eql rfl rfl (beq_iff_eq.2 (by omega)) (.taken rfl rfl) ?_; refine kpt rfl rfl <| kmv rfl <| gmv rfl rfl rfl <| K.eql rfl rfl (beq_iff_eq.2 (by omega)) (.taken rfl rfl) ?_; refine kpt rfl rfl <| kmv rfl <| gmv rfl rfl rfl <| gmv rfl rfl rfl <| K.eql rfl rfl (beq_iff_eq.2 (by omega)) (.taken rfl rfl) ?_; refine kpt rfl rfl <| kmv rfl <| gmv rfl rfl rfl <| K.eql rfl rfl (beq_iff_eq.2 (by omega)) (.taken rfl rfl) ?_; refine kpt rfl rfl <| kmv rfl <| gmv rfl rfl rfl <| K.eql rfl rfl (beq_iff_eq.2 (by omega)) (.taken rfl rfl) ?_; refine kpt rfl rfl <| kmv rfl <| gmv rfl rfl rfl <| K.eql rfl rfl (beq_iff_eq.2 (by omega)) (.taken rfl rfl) ?_; refine kpt rfl rfl <| kmv rfl <| gmv rfl rfl rfl <| gca rfl rfl t1 rfl rfl <| K.strEq rfl rfl (strs_eq (r := true) (by decide)) (.taken rfl rfl) ?_; refine kpt rfl rfl <| kmv rfl <| gmv rfl rfl rfl <| gca rfl rfl l1 rfl rfl <| K.eql rfl rfl (beq_iff_eq.2 (by omega)) (.taken rfl rfl) ?_; refine kpt rfl rfl <| kmv rfl <| gmv rfl rfl rfl <| gca rfl rfl q1 rfl rfl <| kpt rfl rfl <| kmv rfl <| gmv rfl rfl rfl <| gca rfl rfl q2 rfl rfl <| K.not rfl rfl (.taken rfl rfl) ?_; refine kpt rfl rfl <| kmv rfl <| gca rfl rfl t2 rfl rfl <| K.strEq rfl rfl (strs_eq (r := true) (by decide)) (.taken rfl rfl) ?_; refine kpt rfl rfl <| kas rfl <| RunK.nil <| LWP.ret ?_)
  exact ⟨[_], ⟨rfl, trivial⟩, rfl⟩
end Go.Proofs.YtklofjlbjahnaaaDoor
end
section
namespace Go.Lg.Sg
open Go Go.Lg Go.Lg.Fld
theorem all_snoc {α : Type} {l : List α} {i : Nat} {x : α} (h : l[i]? = some x) (p : α → Bool) : (l.take (i + 1)).all p = ((l.take i).all p && p x) := by
  rw [take_snoc h, List.all_append]
  simp
theorem any_snoc' {α : Type} {l : List α} {i : Nat} {x : α} (h : l[i]? = some x) (p : α → Bool) : (l.take (i + 1)).any p = ((l.take i).any p || p x) := by
  rw [take_snoc h, List.any_append]
  simp
end Go.Lg.Sg
namespace Go.Proofs.YtklofjlbjahnaaaDoor
open Go Go.Lg Go.Lg.Fld Go.Lg.Sg
set_option maxRecDepth 100000
variable (X : Nat → Option Obj)
abbrev sxSt (a b : Nat) (id : Int) (xs ys : LV) (more : List (Nat × LV)) (Y : Nat → Option Obj) : St := ⟨[(0, Ln .u32 (a : Nat)), (1, Ln .u32 (b : Nat)), (2, Ln .i64 id), (7, Ln .u32 (a : Nat)), (8, Ln .u32 (b : Nat)), (9, xs), (10, ys)] ++ more, [], Y⟩
set_option maxHeartbeats 6400000 in
theorem SigExact_spec (a b : Nat) (id : Int) (ha : a < 4294967296) (hb : b < 4294967296) (hi : -9223372036854775808 ≤ id ∧ id < 9223372036854775808) :
    PSpec Tryd.prog X 3 [Ln .u32 (a : Nat), Ln .u32 (b : Nat), Ln .i64 id] (Lb true) := by
  have hW := awake10_spec X
  have i1 := rIds_spec X a ha
  have i2 := rIds_spec X b hb
  refine PSpec.intro Tryd.func3 rfl (by kernel_rfl) rfl rfl ?_
  intro C
  (refine LWP.seq <| LWP.region (by kernel_rfl) <| kas rfl <| RunK.nil <| LWP.seq <| LWP.seq <| LWP.region (by kernel_rfl) <| kca rfl rfl (hW) <| K.not rfl rfl .plain <| RunK.nil <| LWP.condF rfl ?_; refine LWP.skip ?_; refine LWP.seq <| LWP.region (by kernel_rfl) <| kmv rfl <| kas rfl <| RunK.nil <| LWP.seq <| LWP.region (by kernel_rfl) <| kmv rfl <| kas rfl <| RunK.nil <| LWP.seq <| LWP.region (by kernel_rfl) <| kmv rfl <| K.callMp [(1000001, 500)] (.sv (.one (.slc 500 0 (idsL a).length))) [nuB 500 (idsL a)] (i1) rfl rfl (by exact trivial) rfl rfl rfl rfl rfl (by exact (.box rfl (Box.ren_vals _ _ _ _) .nil)) .plain ?_; refine kas rfl <| RunK.nil <| LWP.seq <| LWP.region (by kernel_rfl) <| kmv rfl <| K.callMp [(1000001, 501)] (.sv (.one (.slc 501 0 (idsL b).length))) [nuB 501 (idsL b)] (i2) rfl rfl (by exact trivial) rfl rfl rfl rfl rfl (by exact (.box rfl (Box.ren_vals _ _ _ _) .nil)) .plain <| kas rfl <| RunK.nil <| LWP.seq ?_)
  refine LWP.le (σ' := ⟨[(9, .sv (.one (.slc 500 0 (idsL a).length))), (0, Ln .u32 (a : Nat)), (1, Ln .u32 (b : Nat)), (2, Ln .i64 id), (7, Ln .u32 (a : Nat)), (8, Ln .u32 (b : Nat)), (10, .sv (.one (.slc 501 0 (idsL b).length)))], [nuB 500 (idsL a), nuB 501 (idsL b)], X⟩) (Le.of (by exact ⟨rfl, rfl, rfl, rfl, rfl, rfl, rfl, trivial⟩) (by exact ⟨rfl, rfl, trivial⟩) (by exact rfl) (by exact rfl) (by repeat' (first | refine all_cons_true ?_ ?_ | rfl | exact bytes_inUse | exact vals_inUse | exact mid_inUse rfl))) ?_
  refine LWP.freeze rfl (by repeat' (first | refine all_cons_true ?_ ?_ | rfl | exact bytes_inUse | exact vals_inUse | exact mid_inUse rfl)) rfl fun b1 xc a1 f1 n1 _ _ _ s1 => ?_
  refine LWP.le (σ' := ⟨[(10, .sv (.one (.slc 501 0 (idsL b).length))), (0, Ln .u32 (a : Nat)), (1, Ln .u32 (b : Nat)), (2, Ln .i64 id), (7, Ln .u32 (a : Nat)), (8, Ln .u32 (b : Nat)), (9, Vn (some ⟨b1, 0, none⟩) (idsL a).length xc)], [nuB 501 (idsL b)], withBlock X b1 (.cells a1 3 f1)⟩) (Le.of (by exact ⟨rfl, rfl, rfl, rfl, rfl, rfl, rfl, trivial⟩) (by exact ⟨rfl, trivial⟩) (by exact rfl) (by exact rfl) (by repeat' (first | refine all_cons_true ?_ ?_ | rfl | exact bytes_inUse | exact vals_inUse | exact mid_inUse rfl))) ?_
  refine LWP.freeze rfl rfl rfl fun b2 yc a2 f2 n2 _ _ _ s2 => ?_
  have hx : NuIn (withBlock (withBlock X b1 (.cells a1 3 f1)) b2 (.cells a2 3 f2)) (some ⟨b1, 0, none⟩) (idsL a) := (nu_frozen s1).mono (withBlock_old n2)
  have hy : NuIn (withBlock (withBlock X b1 (.cells a1 3 f1)) b2 (.cells a2 3 f2)) (some ⟨b2, 0, none⟩) (idsL b) := nu_frozen s2
  generalize withBlock (withBlock X b1 (.cells a1 3 f1)) b2 (.cells a2 3 f2) = Z at *
  clear s1 s2 n1 n2
  generalize (some ⟨b1, 0, none⟩ : Option Addr) = xd at *
  generalize (some ⟨b2, 0, none⟩ : Option Addr) = yd at *
  have hxl : (idsL a).length ≤ 24 := idsTo_len a 24
  have hyl : (idsL b).length ≤ 24 := idsTo_len b 24
  (refine LWP.region (by kernel_rfl) <| kas rfl <| RunK.nil <| LWP.seq <| LWP.region (by kernel_rfl) <| kas rfl <| RunK.nil <| LWP.seq <| LWP.seq <| LWP.region (by kernel_rfl) <| kas rfl <| RunK.nil <| LWP.block ?_)
  refine LWP.loop (fun m σ => ∃ i : Nat, i ≤ (idsL a).length ∧ m = (idsL a).length - i ∧ σ = sxSt a b id (Vn xd (idsL a).length xc) (Vn yd (idsL b).length yc) [(11, Lb (((idsL a).take i).all (hasB b))), (12, Lb (((idsL a).take i).any (hasB b))), (13, Ln .i64 (i : Nat))] Z) (idsL a).length
    ⟨sxSt a b id (Vn xd (idsL a).length xc) (Vn yd (idsL b).length yc) [(11, Lb true), (12, Lb false), (13, Ln .i64 (0 : Nat))] Z, Le.of (by exact ⟨rfl, rfl, rfl, rfl, rfl, rfl, rfl, rfl, rfl, rfl, trivial⟩) (by exact trivial) (by exact rfl) (by exact rfl) (by repeat' (first | refine all_cons_true ?_ ?_ | rfl | exact bytes_inUse | exact vals_inUse | exact mid_inUse rfl)), 0, by omega, rfl, rfl⟩ ?_
  rintro m σ ⟨i, hil, rfl, rfl⟩
  by_cases hlt : i < (idsL a).length
  · obtain ⟨x, hxi⟩ : ∃ x, (idsL a)[i]? = some x := ⟨_, List.getElem?_eq_getElem hlt⟩
    obtain ⟨blk, off, arr, el, fr, rfl, hX, hc⟩ := hx.at hxi
    have hio : off + Int.toNat (i : Int) * 1 = off + i * 1 := by simp
    have hH := has_spec Z (idsL b) yd yc x hy (by omega)
    rw [any_ids] at hH
    have w1' := all_snoc hxi (hasB b)
    have w2' := any_snoc' hxi (hasB b)
    cases hA : ((idsL a).take i).all (hasB b) with
    | true =>
      rw [hA, Bool.true_and] at w1'
      cases hB : ((idsL a).take i).any (hasB b) with
      | true =>
        rw [hB, Bool.true_or] at w2'
        (refine LWP.seq <| LWP.seq <| LWP.region (by kernel_rfl) <| kmv rfl <| kmv rfl <| K.lenX rfl SliceT.h rfl .plain ?_; refine klt rfl rfl (decide_eq_true (by omega)) <| RunK.nil <| LWP.condT rfl ?_; refine LWP.skip ?_; refine LWP.seq <| LWP.block <| LWP.seq <| LWP.region (by kernel_rfl) <| kmv rfl <| kmv rfl <| gmv rfl rfl rfl <| gmv rfl rfl rfl <| gmv rfl rfl rfl <| K.indexX rfl rfl SliceT.h (by omega) hio (.taken rfl rfl) ?_; refine K.loadX rfl hX rfl hc (.taken rfl rfl) ?_; refine gca rfl rfl hH rfl rfl <| kpt rfl rfl <| kas rfl <| RunK.nil <| LWP.region (by kernel_rfl) <| kmv rfl <| kmv rfl <| RunK.passed rfl rfl rfl <| RunK.passed rfl rfl rfl <| RunK.passed rfl rfl rfl <| RunK.passed rfl rfl rfl <| RunK.passed rfl rfl rfl <| RunK.passed rfl rfl rfl <| kpt rfl rfl ?_; refine kas rfl <| RunK.nil <| LWP.region (by kernel_rfl) <| kmv rfl <| kad rfl rfl (wrap_i64 (by omega)) <| kas rfl <| RunK.nil ?_)
        exact ⟨_, sxSt a b id (Vn (some ⟨blk, off, none⟩) (idsL a).length xc) (Vn yd (idsL b).length yc) [(11, Lb (hasB b x)), (12, Lb true), (13, Ln .i64 (i + 1 : Nat))] Z, by omega, Le.of (by exact ⟨rfl, rfl, rfl, rfl, rfl, rfl, rfl, rfl, rfl, rfl, trivial⟩) (by exact trivial) (by exact rfl) (by exact rfl) (by repeat' (first | refine all_cons_true ?_ ?_ | rfl | exact bytes_inUse | exact vals_inUse | exact mid_inUse rfl)), i + 1, by omega, rfl, by rw [w1', w2']⟩
      | false =>
        rw [hB, Bool.false_or] at w2'
        (refine LWP.seq <| LWP.seq <| LWP.region (by kernel_rfl) <| kmv rfl <| kmv rfl <| K.lenX rfl SliceT.h rfl .plain ?_; refine klt rfl rfl (decide_eq_true (by omega)) <| RunK.nil <| LWP.condT rfl ?_; refine LWP.skip ?_; refine LWP.seq <| LWP.block <| LWP.seq <| LWP.region (by kernel_rfl) <| kmv rfl <| kmv rfl <| gmv rfl rfl rfl <| gmv rfl rfl rfl <| gmv rfl rfl rfl <| K.indexX rfl rfl SliceT.h (by omega) hio (.taken rfl rfl) ?_; refine K.loadX rfl hX rfl hc (.taken rfl rfl) ?_; refine gca rfl rfl hH rfl rfl <| kpt rfl rfl <| kas rfl <| RunK.nil <| LWP.region (by kernel_rfl) <| kmv rfl <| kmv rfl <| gmv rfl rfl rfl <| gmv rfl rfl rfl <| gmv rfl rfl rfl <| K.indexX rfl rfl SliceT.h (by omega) hio (.taken rfl rfl) ?_; refine K.loadX rfl hX rfl hc (.taken rfl rfl) ?_; refine gca rfl rfl hH rfl rfl <| kpf rfl rfl <| kas rfl <| RunK.nil <| LWP.region (by kernel_rfl) <| kmv rfl <| kad rfl rfl (wrap_i64 (by omega)) <| kas rfl <| RunK.nil ?_)
        exact ⟨_, sxSt a b id (Vn (some ⟨blk, off, none⟩) (idsL a).length xc) (Vn yd (idsL b).length yc) [(11, Lb (hasB b x)), (12, Lb (hasB b x)), (13, Ln .i64 (i + 1 : Nat))] Z, by omega, Le.of (by exact ⟨rfl, rfl, rfl, rfl, rfl, rfl, rfl, rfl, rfl, rfl, trivial⟩) (by exact trivial) (by exact rfl) (by exact rfl) (by repeat' (first | refine all_cons_true ?_ ?_ | rfl | exact bytes_inUse | exact vals_inUse | exact mid_inUse rfl)), i + 1, by omega, rfl, by rw [w1', w2']⟩
    | false =>
      rw [hA, Bool.false_and] at w1'
      cases hB : ((idsL a).take i).any (hasB b) with
      | true =>
        rw [hB, Bool.true_or] at w2'
        (refine LWP.seq <| LWP.seq <| LWP.region (by kernel_rfl) <| kmv rfl <| kmv rfl <| K.lenX rfl SliceT.h rfl .plain ?_; refine klt rfl rfl (decide_eq_true (by omega)) <| RunK.nil <| LWP.condT rfl ?_; refine LWP.skip ?_; refine LWP.seq <| LWP.block <| LWP.seq <| LWP.region (by kernel_rfl) <| kmv rfl <| kmv rfl <| RunK.passed rfl rfl rfl <| RunK.passed rfl rfl rfl <| RunK.passed rfl rfl rfl <| RunK.passed rfl rfl rfl <| RunK.passed rfl rfl rfl <| RunK.passed rfl rfl rfl <| kpf rfl rfl <| kas rfl ?_; refine RunK.nil <| LWP.region (by kernel_rfl) <| kmv rfl <| kmv rfl <| RunK.passed rfl rfl rfl <| RunK.passed rfl rfl rfl <| RunK.passed rfl rfl rfl <| RunK.passed rfl rfl rfl <| RunK.passed rfl rfl rfl <| RunK.passed rfl rfl rfl <| kpt rfl rfl <| kas rfl <| RunK.nil <| LWP.region (by kernel_rfl) ?_; refine kmv rfl <| kad rfl rfl (wrap_i64 (by omega)) <| kas rfl <| RunK.nil ?_)
        exact ⟨_, sxSt a b id (Vn (some ⟨blk, off, none⟩) (idsL a).length xc) (Vn yd (idsL b).length yc) [(11, Lb false), (12, Lb true), (13, Ln .i64 (i + 1 : Nat))] Z, by omega, Le.of (by exact ⟨rfl, rfl, rfl, rfl, rfl, rfl, rfl, rfl, rfl, rfl, trivial⟩) (by exact trivial) (by exact rfl) (by exact rfl) (by repeat' (first | refine all_cons_true ?_ ?_ | rfl | exact bytes_inUse | exact vals_inUse | exact mid_inUse rfl)), i + 1, by omega, rfl, by rw [w1', w2']⟩
      | false =>
        rw [hB, Bool.false_or] at w2'
        (refine LWP.seq <| LWP.seq <| LWP.region (by kernel_rfl) <| kmv rfl <| kmv rfl <| K.lenX rfl SliceT.h rfl .plain ?_; refine klt rfl rfl (decide_eq_true (by omega)) <| RunK.nil <| LWP.condT rfl ?_; refine LWP.skip ?_; refine LWP.seq <| LWP.block <| LWP.seq <| LWP.region (by kernel_rfl) <| kmv rfl <| kmv rfl <| RunK.passed rfl rfl rfl <| RunK.passed rfl rfl rfl <| RunK.passed rfl rfl rfl <| RunK.passed rfl rfl rfl <| RunK.passed rfl rfl rfl <| RunK.passed rfl rfl rfl <| kpf rfl rfl <| kas rfl ?_; refine RunK.nil <| LWP.region (by kernel_rfl) <| kmv rfl <| kmv rfl <| gmv rfl rfl rfl <| gmv rfl rfl rfl <| gmv rfl rfl rfl <| K.indexX rfl rfl SliceT.h (by omega) hio (.taken rfl rfl) ?_; refine K.loadX rfl hX rfl hc (.taken rfl rfl) ?_; refine gca rfl rfl hH rfl rfl <| kpf rfl rfl <| kas rfl <| RunK.nil <| LWP.region (by kernel_rfl) <| kmv rfl <| kad rfl rfl (wrap_i64 (by omega)) <| kas rfl <| RunK.nil ?_)
        exact ⟨_, sxSt a b id (Vn (some ⟨blk, off, none⟩) (idsL a).length xc) (Vn yd (idsL b).length yc) [(11, Lb false), (12, Lb (hasB b x)), (13, Ln .i64 (i + 1 : Nat))] Z, by omega, Le.of (by exact ⟨rfl, rfl, rfl, rfl, rfl, rfl, rfl, rfl, rfl, rfl, trivial⟩) (by exact trivial) (by exact rfl) (by exact rfl) (by repeat' (first | refine all_cons_true ?_ ?_ | rfl | exact bytes_inUse | exact vals_inUse | exact mid_inUse rfl)), i + 1, by omega, rfl, by rw [w1', w2']⟩
  have e : i = (idsL a).length := by omega
  subst e
  rw [List.take_length]
  rw [show (idsL a).all (hasB b) = withinB a b from rfl, show (idsL a).any (hasB b) = meetsB a b from rfl]
  (refine LWP.seq <| LWP.seq <| LWP.region (by kernel_rfl) <| kmv rfl <| kmv rfl <| K.lenX rfl SliceT.h rfl .plain ?_; refine klt rfl rfl (decide_eq_false (by omega)) <| RunK.nil <| LWP.condF rfl ?_; refine LWP.exit <| LWP.seq ?_)
  repeat refine LWP.seq ?_
  refine LWP.meetL (fun σ => σ = sxSt a b id (Vn xd (idsL a).length xc) (Vn yd (idsL b).length yc) [(11, Lb (withinB a b)), (12, Lb (meetsB a b)), (14, Lb (okI id))] Z) ?_ ?_
  · by_cases h1 : 1 ≤ id
    · rw [show okI id = decide (id ≤ 24) by unfold okI; rw [decide_eq_true h1, Bool.true_and]]
      (refine LWP.region (by kernel_rfl) <| kmv rfl <| K.geq rfl rfl (decide_eq_true h1) .plain <| kmv rfl <| gmv rfl rfl rfl <| K.leq rfl rfl rfl (.taken rfl rfl) ?_; refine kpt rfl rfl <| kas rfl <| RunK.nil ?_)
      exact Leads.here (Le.of (by exact ⟨rfl, rfl, rfl, rfl, rfl, rfl, rfl, rfl, rfl, rfl, trivial⟩) (by exact trivial) (by exact rfl) (by exact rfl) (by repeat' (first | refine all_cons_true ?_ ?_ | rfl | exact bytes_inUse | exact vals_inUse | exact mid_inUse rfl))) rfl
    · rw [show okI id = false by unfold okI; rw [decide_eq_false h1]; rfl]
      (refine LWP.region (by kernel_rfl) <| kmv rfl <| K.geq rfl rfl (decide_eq_false h1) .plain <| kmv rfl <| RunK.passed rfl rfl rfl <| RunK.passed rfl rfl rfl <| kpf rfl rfl <| kas rfl <| RunK.nil ?_)
      exact Leads.here (Le.of (by exact ⟨rfl, rfl, rfl, rfl, rfl, rfl, rfl, rfl, rfl, rfl, trivial⟩) (by exact trivial) (by exact rfl) (by exact rfl) (by repeat' (first | refine all_cons_true ?_ ?_ | rfl | exact bytes_inUse | exact vals_inUse | exact mid_inUse rfl))) rfl
  rintro σ rfl
  have hH := has_spec Z (idsL a) xd xc id hx (by omega)
  rw [any_ids] at hH
  (refine LWP.seq <| LWP.region (by kernel_rfl) <| kmv rfl <| kas rfl <| RunK.nil <| LWP.seq <| LWP.region (by kernel_rfl) <| kmv rfl <| kas rfl <| RunK.nil <| LWP.seq <| LWP.seq ?_)
  repeat refine LWP.seq ?_
  refine LWP.cut (fun σ => σ = sxSt a b id (Vn xd (idsL a).length xc) (Vn yd (idsL b).length yc) [(11, Lb (withinB a b)), (12, Lb (meetsB a b)), (15, Ln .u32 (withN a id : Nat)), (16, Ln .u32 (withoutN a id : Nat))] Z) ?_ ?_
  · cases ho : okI id with
    | false =>
      rw [show withN a id = a by unfold withN; rw [ho]; rfl, show withoutN a id = a by unfold withoutN hasB; rw [ho]; rfl]
      (refine LWP.region (by kernel_rfl) <| kmv rfl <| RunK.nil <| LWP.condF rfl ?_; refine LWP.skip ?_)
      exact ⟨_, Le.of (by exact ⟨rfl, rfl, rfl, rfl, rfl, rfl, rfl, rfl, rfl, rfl, rfl, trivial⟩) (by exact trivial) (by exact rfl) (by exact rfl) (by repeat' (first | refine all_cons_true ?_ ?_ | rfl | exact bytes_inUse | exact vals_inUse | exact mid_inUse rfl)), rfl⟩
    | true =>
      obtain ⟨h1, h24⟩ := okI_iff.1 ho
      have hk : id.toNat ≤ 24 := by omega
      have hpl : 2 ^ id.toNat ≤ 2 ^ 24 := Nat.pow_le_pow_right (by decide) hk
      have hcv : IntKind.u64.wrap id = id := wrap_u64 ⟨by omega, by omega⟩
      have hsh : IntKind.u32.wrap ((1 : Int) * 2 ^ (min id.toNat IntKind.u32.bits)) = ((2 ^ id.toNat : Nat) : Int) := by
        rw [show min id.toNat IntKind.u32.bits = id.toNat from Nat.min_eq_left (show id.toNat ≤ 32 by omega), Int.one_mul, show ((2 : Int) ^ id.toNat) = ((2 ^ id.toNat : Nat) : Int) from (Int.natCast_pow 2 id.toNat).symm]
        exact wrap_u32 ⟨Int.natCast_nonneg _, by omega⟩
      cases hbit : a.testBit id.toNat with
      | false =>
        rw [show hasB a id = false by unfold hasB; rw [ho, hbit]; rfl] at hH
        have e1 : withN a id = a + 2 ^ id.toNat := by unfold withN; rw [if_pos ho, or_pow hbit]
        have hl := with_lt (id := id) ha
        rw [e1] at hl
        rw [e1, show withoutN a id = a by unfold withoutN hasB; rw [ho, hbit]; rfl]
        generalize 2 ^ id.toNat = p at *
        have hadd : IntKind.u32.wrap ((a : Int) + (p : Int)) = ((a + p : Nat) : Int) := by
          refine (wrap_u32 ⟨?_, ?_⟩).trans ?_ <;> omega
        (refine LWP.region (by kernel_rfl) <| kmv rfl <| RunK.nil <| LWP.condT rfl ?_; refine LWP.seq <| LWP.region (by kernel_rfl) <| kmv rfl <| kmv rfl <| kca rfl rfl hH <| K.not rfl rfl .plain <| RunK.nil <| LWP.condT rfl ?_; refine LWP.region (by kernel_rfl) <| kmv rfl <| kmv rfl <| kcv rfl hcv ?_; refine K.shl rfl rfl (by omega) hsh .plain <| kad rfl rfl hadd <| kas rfl <| RunK.nil ?_)
        exact ⟨_, Le.of (by exact ⟨rfl, rfl, rfl, rfl, rfl, rfl, rfl, rfl, rfl, rfl, rfl, trivial⟩) (by exact trivial) (by exact rfl) (by exact rfl) (by repeat' (first | refine all_cons_true ?_ ?_ | rfl | exact bytes_inUse | exact vals_inUse | exact mid_inUse rfl)), rfl⟩
      | true =>
        rw [show hasB a id = true by unfold hasB; rw [ho, hbit]; rfl] at hH
        have hge : 2 ^ id.toNat ≤ a := Nat.ge_two_pow_of_testBit hbit
        have e1 : withN a id = a := by
          apply Nat.eq_of_testBit_eq
          intro j
          rw [with_bit, ho, Bool.true_and]
          by_cases e : id.toNat = j
          · rw [← e, hbit]; rfl
          · rw [decide_eq_false e, Bool.or_false]
        have e2 : withoutN a id = a - 2 ^ id.toNat := by
          rw [← xor_pow hbit]
          unfold withoutN hasB
          rw [ho, hbit]
          rfl
        rw [e1, e2]
        generalize 2 ^ id.toNat = p at *
        have hsub : IntKind.u32.wrap ((a : Int) - (p : Int)) = ((a - p : Nat) : Int) := by
          refine (wrap_u32 ⟨?_, ?_⟩).trans ?_ <;> omega
        (refine LWP.region (by kernel_rfl) <| kmv rfl <| RunK.nil <| LWP.condT rfl ?_; refine LWP.seq <| LWP.region (by kernel_rfl) <| kmv rfl <| kmv rfl <| kca rfl rfl hH <| K.not rfl rfl .plain <| RunK.nil <| LWP.condF rfl ?_; refine LWP.region (by kernel_rfl) <| kmv rfl <| kmv rfl <| kcv rfl hcv ?_; refine K.shl rfl rfl (by omega) hsh .plain <| K.sub rfl rfl hsub .plain <| kas rfl <| RunK.nil ?_)
        exact ⟨_, Le.of (by exact ⟨rfl, rfl, rfl, rfl, rfl, rfl, rfl, rfl, rfl, rfl, rfl, trivial⟩) (by exact trivial) (by exact rfl) (by exact rfl) (by repeat' (first | refine all_cons_true ?_ ?_ | rfl | exact bytes_inUse | exact vals_inUse | exact mid_inUse rfl)), rfl⟩
  rintro σ rfl
  have c1 := gLen Z a ha
  have c2 := gIs Z a ha
  have c3 := rIs_spec Z a ha
  have c4 := gHas Z a ha id
  have c5 := gWith Z a ha id
  have c6 := gWithout Z a ha id
  have c7 := gWithin Z a b ha hb
  have c8 := gMeets Z a b ha hb
  generalize withN a id = wn at *
  generalize withoutN a id = wo at *
  have c0 := gIds Z a ha
  (refine LWP.seq <| LWP.region (by kernel_rfl) <| kmv rfl <| K.callMp [(1000001, 700)] (.sv (.one (.slc 700 0 (idsL a).length))) [nuB 700 (idsL a)] (c0) rfl rfl (by exact trivial) rfl rfl rfl rfl rfl (by exact (.box rfl (Box.ren_vals _ _ _ _) .nil)) .plain <| kmv rfl <| K.callL [700] rfl rfl rfl (ints_lent Z hx (by omega) rfl) .plain ?_; refine kmv rfl <| gmv rfl rfl rfl <| gca rfl rfl c1 rfl rfl <| gmv rfl rfl rfl <| K.lenX rfl SliceT.h rfl (.taken rfl rfl) ?_; refine K.eql rfl rfl (r := true) (by simp) (.taken rfl rfl) ?_; refine kpt rfl rfl <| kmv rfl <| gmv rfl rfl rfl <| gca rfl rfl c2 rfl rfl <| gmv rfl rfl rfl <| gca rfl rfl c3 rfl rfl <| K.eqlB rfl rfl (r := true) (by simp) (.taken rfl rfl) ?_; refine kpt rfl rfl <| kmv rfl <| gmv rfl rfl rfl <| gmv rfl rfl rfl <| gca rfl rfl c4 rfl rfl <| gmv rfl rfl rfl <| gmv rfl rfl rfl <| gca rfl rfl hH rfl rfl <| K.eqlB rfl rfl (r := true) (by simp) (.taken rfl rfl) ?_; refine kpt rfl rfl <| kmv rfl <| gmv rfl rfl rfl <| gmv rfl rfl rfl <| gca rfl rfl c5 rfl rfl <| gmv rfl rfl rfl <| K.eql rfl rfl (r := true) (by simp) (.taken rfl rfl) ?_; refine kpt rfl rfl <| kmv rfl <| gmv rfl rfl rfl <| gmv rfl rfl rfl <| gca rfl rfl c6 rfl rfl <| gmv rfl rfl rfl <| K.eql rfl rfl (r := true) (by simp) (.taken rfl rfl) ?_; refine kpt rfl rfl <| kmv rfl <| gmv rfl rfl rfl <| gmv rfl rfl rfl <| gca rfl rfl c7 rfl rfl <| gmv rfl rfl rfl <| K.eqlB rfl rfl (r := true) (by simp) (.taken rfl rfl) ?_; refine kpt rfl rfl <| kmv rfl <| gmv rfl rfl rfl <| gmv rfl rfl rfl <| gca rfl rfl c8 rfl rfl <| gmv rfl rfl rfl <| K.eqlB rfl rfl (r := true) (by simp) (.taken rfl rfl) ?_; refine kpt rfl rfl <| kas rfl <| RunK.nil <| LWP.ret ?_)
  exact ⟨[_], ⟨rfl, trivial⟩, rfl⟩
end Go.Proofs.YtklofjlbjahnaaaDoor
end
section
namespace Go.Lg
open Go Go.RowKit Go.ChangeShapes Go.WideShapes Go.Joins
theorem open_nus {H : Type} {enc : TypeId × Value → H} {P : Program} {w : World} {r : Reach} {b0 : Nat} {t e : TypeId} {v : Value} {d : DataW H} {p : List MemPlace} (ht : P.underlying t = some (.slice e)) (he : P.underlying e = some (.int .i64)) (hc : P.cellsOf e = 1) (hv : Value.okWide P w r b0 t v) (h : DataW.Trod enc P w 0 (fun _ => true) true t v d p) :
    ∃ (ad : Option Addr) (cap : Nat) (ks : List Int), v = .slice ad ks.length cap ∧ ks.length ≤ cap ∧ cap ≤ maxLen ∧ RowsIn (fun b => w.heap[b]?) ad 1 (ks.map fun n => [.int .i64 n]) ∧ ∀ n ∈ ks, -9223372036854775808 ≤ n ∧ n < 9223372036854775808 := by
  obtain ⟨ad, cap, rows, rfl, h1, h2, h3, h4, _⟩ := open_rows ht hc (by decide) hv h
  obtain ⟨ks, rfl, h5⟩ := map_of (f := fun n : Int => [Value.int .i64 n]) (q := fun n => -9223372036854775808 ≤ n ∧ n < 9223372036854775808) (vs := rows) (fun u hu => by
    obtain ⟨_, n, x, hx⟩ := h4 u hu
    obtain ⟨m, e1, _, hw⟩ := DataW.trod_int he hx
    have hb := bounds_i64 hw
    exact ⟨m, e1, by omega⟩)
  exact ⟨ad, cap, ks, by rw [List.length_map], by rw [List.length_map] at h1; exact h1, h2, h3, h5⟩
end Go.Lg
end
