/- A piece of a proof over this program: contracts of its functions, and a logic to prove them by. -/
import Derived.Test.YtnfbccfghgmfiaaGreatH3
import Derived.Test.YtnfbccfghgmfiaaGreatH4
import Derived.Test.YtnfbccfghgmfiaaGreatH5
import Derived.Test.YtnfbccfghgmfiaaGreatH6
import Derived.Lib.ItoaLen
import Derived.Lib.ItoaNum
import Derived.Lib.Walk
import Derived.Lib.ItoaMem
import Derived.Lib.AppendIntMem
import Derived.WalkKit
import Derived.BigCall
import Derived.BigGuard
import Derived.Lib.Repeat
import Derived.Lib.Join
section
namespace Go.Proofs.YtnfbccfghgmfiaaGreat
open Go Go.Lg Go.Lg.Fml Go.Lg.Fld Go.Lg.Arith
set_option maxRecDepth 100000
def rwZ : List Rl → List Value → List Value
  | r :: rs, v :: vs => .int .i64 r.nw :: .int .i64 r.old :: v :: rwZ rs vs
  | _, _ => []
theorem rwZ_len : ∀ {rs : List Rl} {ws : List Value}, ws.length = rs.length → (rwZ rs ws).length = rs.length * 3
  | [], [], _ => rfl
  | c :: cs, v :: vs, h => by
    simp only [rwZ, List.length_cons] at h ⊢
    rw [rwZ_len (rs := cs) (ws := vs) (by omega)]; omega
  | [], _ :: _, h => by simp at h
  | _ :: _, [], h => by simp at h
theorem rwZ_add : ∀ {rs : List Rl} {ws : List Value} {r : Rl} {v : Value}, ws.length = rs.length → rwZ (rs ++ [r]) (ws ++ [v]) = rwZ rs ws ++ [.int .i64 r.nw, .int .i64 r.old, v]
  | [], [], _, _, _ => rfl
  | c :: cs, w :: ws, r, v, h => by
    simp only [List.length_cons] at h
    simp only [List.cons_append, rwZ]
    rw [rwZ_add (rs := cs) (ws := ws) (by omega)]
  | [], _ :: _, _, _, h => by simp at h
  | _ :: _, [], _, _, h => by simp at h
theorem rwZ_at : ∀ {i : Nat} {rs : List Rl} {ws sp : List Value} {r : Rl} {w : Value}, rs[i]? = some r → ws[i]? = some w → ((rwZ rs ws ++ sp).drop (i * 3)).take 3 = [.int .i64 r.nw, .int .i64 r.old, w]
  | 0, c :: cs, v :: vs, sp, r, w, h1, h2 => by
    simp only [List.getElem?_cons_zero, Option.some.injEq] at h1 h2
    subst h1 h2
    rfl
  | i + 1, c :: cs, v :: vs, sp, r, w, h1, h2 => by
    simp only [List.getElem?_cons_succ] at h1 h2
    have := rwZ_at (sp := sp) h1 h2
    rw [show (i + 1) * 3 = i * 3 + 3 by omega]
    exact this
  | _, [], _, _, _, _, h, _ => by simp at h
  | _, _ :: _, [], _, _, _, _, h => by simp at h
theorem snoc_get {α : Type} {l : List α} {a x : α} {i : Nat} (h : (l ++ [a])[i]? = some x) : (i < l.length ∧ l[i]? = some x) ∨ (i = l.length ∧ x = a) := by
  by_cases e : i < l.length
  · rw [List.getElem?_append_left e] at h; exact .inl ⟨e, h⟩
  · have h1 := (List.getElem?_eq_some_iff.1 h).1
    rw [List.length_append] at h1
    simp only [List.length_singleton] at h1
    have e2 : i = l.length := by omega
    subst e2
    rw [List.getElem?_append_right (Nat.le_refl _), Nat.sub_self] at h
    simp only [List.getElem?_cons_zero, Option.some.injEq] at h
    exact .inr ⟨rfl, h.symm⟩
structure FormsH (H : Nat → Option Obj) (vs : List Value) (cs : List (List Ins)) : Prop where
  len : vs.length = cs.length
  at_ : ∀ (i : Nat) (v : Value) (c : List Ins), vs[i]? = some v → cs[i]? = some c → ∃ (vad : Option Addr) (vcap : Nat), v = .slice vad c.length vcap ∧ InsIn H vad c
theorem FormsH.nil {H : Nat → Option Obj} : FormsH H [] [] := ⟨rfl, fun i v c h => by simp at h⟩
theorem FormsH.mono {H H' : Nat → Option Obj} (hH : ∀ b o, H b = some o → H' b = some o) {vs : List Value} {cs : List (List Ins)} (G : FormsH H vs cs) : FormsH H' vs cs := ⟨G.len, fun i v c hv hc => by
  obtain ⟨vad, vcap, h1, h2⟩ := G.at_ i v c hv hc
  exact ⟨vad, vcap, h1, h2.mono hH⟩⟩
theorem FormsH.push {H : Nat → Option Obj} {vs : List Value} {cs : List (List Ins)} (G : FormsH H vs cs) {v : Value} {c : List Ins} (hv : ∃ (vad : Option Addr) (vcap : Nat), v = .slice vad c.length vcap ∧ InsIn H vad c) : FormsH H (vs ++ [v]) (cs ++ [c]) := ⟨by rw [List.length_append, List.length_append, G.len]; rfl, fun i w d hw hd => by
  have hl := G.len
  rcases snoc_get hw with ⟨h1, h2⟩ | ⟨h1, rfl⟩
  · rcases snoc_get hd with ⟨h3, h4⟩ | ⟨h3, _⟩
    · exact G.at_ i w d h2 h4
    · omega
  · rcases snoc_get hd with ⟨h3, _⟩ | ⟨_, rfl⟩
    · omega
    · exact hv⟩
structure RulesH (H : Nat → Option Obj) (ws : List Value) (rs : List Rl) : Prop where
  len : ws.length = rs.length
  at_ : ∀ (i : Nat) (w : Value) (r : Rl), ws[i]? = some w → rs[i]? = some r → ∃ (ead : Option Addr) (ecap : Nat), w = .slice ead r.ex.length ecap ∧ CodesIn H ead r.ex
theorem RulesH.nil {H : Nat → Option Obj} : RulesH H [] [] := ⟨rfl, fun i v c h => by simp at h⟩
theorem RulesH.mono {H H' : Nat → Option Obj} (hH : ∀ b o, H b = some o → H' b = some o) {vs : List Value} {cs : List Rl} (G : RulesH H vs cs) : RulesH H' vs cs := ⟨G.len, fun i v c hv hc => by
  obtain ⟨vad, vcap, h1, h2⟩ := G.at_ i v c hv hc
  exact ⟨vad, vcap, h1, h2.mono hH⟩⟩
theorem RulesH.push {H : Nat → Option Obj} {vs : List Value} {cs : List Rl} (G : RulesH H vs cs) {v : Value} {c : Rl} (hv : ∃ (vad : Option Addr) (vcap : Nat), v = .slice vad c.ex.length vcap ∧ CodesIn H vad c.ex) : RulesH H (vs ++ [v]) (cs ++ [c]) := ⟨by rw [List.length_append, List.length_append, G.len]; rfl, fun i w d hw hd => by
  have hl := G.len
  rcases snoc_get hw with ⟨h1, h2⟩ | ⟨h1, rfl⟩
  · rcases snoc_get hd with ⟨h3, h4⟩ | ⟨h3, _⟩
    · exact G.at_ i w d h2 h4
    · omega
  · rcases snoc_get hd with ⟨h3, _⟩ | ⟨_, rfl⟩
    · omega
    · exact hv⟩
theorem forms_block {Y : Nat → Option Obj} {blk : Nat} {arr : Array Value} {el : TypeId} {fr : Nat × Nat} {vs sp : List Value} {cs : List (List Ins)} (hY : Y blk = some (.cells arr el fr)) (h : arr.toList = vs ++ sp) (G : FormsH Y vs cs) : CodesIn Y (some ⟨blk, 0, none⟩) cs := ⟨fun i c hc => by
  have hi := (List.getElem?_eq_some_iff.1 hc).1
  have hl := G.len
  obtain ⟨v, hv⟩ : ∃ v, vs[i]? = some v := ⟨_, List.getElem?_eq_getElem (by omega)⟩
  obtain ⟨vad, vcap, h1, h2⟩ := G.at_ i v c hv hc
  have hsz : arr.size = vs.length + sp.length := by rw [← Array.length_toList, h, List.length_append]
  refine ⟨blk, 0, arr, el, fr, vad, vcap, rfl, hY, by omega, ?_, h2⟩
  rw [← Array.getElem?_toList, h, Nat.zero_add, List.getElem?_append_left (by omega), hv, h1]⟩
theorem rules_block {Y : Nat → Option Obj} {blk : Nat} {arr : Array Value} {el : TypeId} {fr : Nat × Nat} {ws sp : List Value} {rs : List Rl} (hY : Y blk = some (.cells arr el fr)) (h : arr.toList = rwZ rs ws ++ sp) (G : RulesH Y ws rs) (hs : ∀ r ∈ rs, smallR r) : RulesIn Y (some ⟨blk, 0, none⟩) rs := ⟨fun i r hr => by
  have hi := (List.getElem?_eq_some_iff.1 hr).1
  have hl := G.len
  obtain ⟨v, hv⟩ : ∃ v, ws[i]? = some v := ⟨_, List.getElem?_eq_getElem (by omega)⟩
  obtain ⟨ead, ecap, h1, h2⟩ := G.at_ i v r hv hr
  have hsz : arr.size = rs.length * 3 + sp.length := by rw [← Array.length_toList, h, List.length_append, rwZ_len hl]
  refine ⟨blk, 0, arr, el, fr, ead, ecap, rfl, hY, by omega, ?_, h2⟩
  rw [h, Nat.zero_add, rwZ_at hr hv, h1], hs⟩
def rlR (t : TypeId) (rs : List Rl) : Rsc := ⟨fun ρ H => (∃ (arr : Array Value) (fr : Nat × Nat), H ρ.1 = some (.cells arr t fr) ∧ arr.size = ρ.2) ∧ RulesIn H (some ⟨ρ.1, 0, none⟩) rs⟩
abbrev rlB (t : TypeId) (k : Nat) (rs : List Rl) : Nat × Option Box := (k, some ⟨0, [], .res (rlR t rs)⟩)
section
variable {n : Nat} {C : Ctx} {X : Nat → Option Obj} {s : List (Nat × LV)} {bx : List (Nat × Option Box)} {k : Nat}
theorem rl_shut {Mid : St → Prop} {t : TypeId} {rs : List Rl} {H : Nat → Option Obj} {ws sp : List Value} (hO : OwnedM C X H) (G : RulesH H ws rs) (hs : ∀ r ∈ rs, smallR r)
    (h : Leads n C Mid ⟨s, rlB t k rs :: bx, X⟩) : Leads n C Mid ⟨s, (k, some ⟨t, (rwZ rs ws ++ sp).map .val, false⟩) :: bx, joinM X H⟩ := by
  refine Leads.closeRes (vals := rwZ rs ws ++ sp) hO (fun ρ fr h1 h2 h3 => ?_) h
  refine ⟨⟨_, fr, withBlock_at _ _ _, by rw [h3]; simp⟩, ?_⟩
  exact rules_block (withBlock_at _ _ _) (by simp; rfl) (G.mono (withBlock_old h1)) hs
end
theorem ins_leads {H : Nat → Option Obj} {b : Nat} {v : Value} {el : TypeId} {c : List Ins} (h : LeadsTo H b v el 6 (inssV c)) (hs : ∀ x ∈ c, smallI x) : ∃ (vad : Option Addr) (vcap : Nat), v = .slice vad c.length vcap ∧ InsIn H vad c := by
  obtain ⟨len, cap, arr, fr, h1, h2, _, _, h5, h6⟩ := h
  have hl := inssV_len c
  rw [List.length_map] at hl
  have e : len = c.length := by omega
  subst e
  exact ⟨_, cap, h1, ins_in h5 hs h6⟩
variable (X : Nat → Option Obj)
end Go.Proofs.YtnfbccfghgmfiaaGreat
end
section
namespace Go.Proofs.YtnfbccfghgmfiaaGreat
open Go Go.Lg Go.Lg.Fml Go.Lg.Fld Go.Lg.Arith
set_option maxRecDepth 100000
variable (X : Nat → Option Obj)
theorem kIsVersion (n : Int) : PSpec Tryz.prog X 59 [Ln .i64 n] (Lb (verOk n)) := by
  refine PSpec.intro Tryz.func59 rfl (by kernel_rfl) rfl rfl ?_
  intro C
  by_cases h1 : 1 ≤ n
  · by_cases h2 : n ≤ 1073741824
    · rw [show verOk n = true by unfold verOk; simp; omega]
      (refine LWP.seq <| rgN <| kas rfl <| RunK.nil <| LWP.seq <| rgN <| kmv rfl <| K.geq rfl rfl (decide_eq_true (by omega)) .plain <| kmv rfl <| gmv rfl rfl rfl <| K.leq rfl rfl (decide_eq_true (by omega)) (.taken rfl rfl) ?_; refine kpt rfl rfl <| kas rfl <| RunK.nil <| LWP.ret ?_)
      exact ⟨[_], ⟨rfl, trivial⟩, rfl⟩
    · rw [show verOk n = false by unfold verOk; simp; omega]
      (refine LWP.seq <| rgN <| kas rfl <| RunK.nil <| LWP.seq <| rgN <| kmv rfl <| K.geq rfl rfl (decide_eq_true (by omega)) .plain <| kmv rfl <| gmv rfl rfl rfl <| K.leq rfl rfl (decide_eq_false (by omega)) (.taken rfl rfl) ?_; refine kpt rfl rfl <| kas rfl <| RunK.nil <| LWP.ret ?_)
      exact ⟨[_], ⟨rfl, trivial⟩, rfl⟩
  · rw [show verOk n = false by unfold verOk; simp; omega]
    (refine LWP.seq <| rgN <| kas rfl <| RunK.nil <| LWP.seq <| rgN <| kmv rfl <| K.geq rfl rfl (decide_eq_false (by omega)) .plain <| kmv rfl <| RunK.passed rfl rfl rfl <| RunK.passed rfl rfl rfl <| kpf rfl rfl <| kas rfl <| RunK.nil ?_; refine LWP.ret ?_)
    exact ⟨[_], ⟨rfl, trivial⟩, rfl⟩
set_option maxHeartbeats 3200000 in
theorem kCheckRule (r : Rl) (ead : Option Addr) (ecap : Nat) (hE : CodesIn X ead r.ex) (h1 : r.ex.length < 4611686018427387904) (h2 : ∀ c ∈ r.ex, c.length < 1152921504606846976) (last : Int) (h0 : 0 ≤ last) :
    PSpec Tryz.prog X 60 [LPg r.nw r.old ead r.ex.length ecap, Ln .i64 last] (Ln .i64 (chkR r last)) := by
  refine PSpec.intro Tryz.func60 rfl (by kernel_rfl) rfl rfl ?_
  intro C
  obtain ⟨nw, old, ex⟩ := r
  simp only at hE h1 h2 ⊢
  by_cases c1 : nw ≤ last
  · rw [show chkR ⟨nw, old, ex⟩ last = 1 from if_pos (by simp only; omega)]
    (refine LWP.seq <| rgN <| K.box rfl rfl rfl .plain <| kas rfl <| RunK.nil <| LWP.seq <| LWP.block <| LWP.seq <| rgN <| kfa rfl rfl ?_; refine kl1 rfl rfl rfl <| kmv rfl <| K.leq rfl rfl (decide_eq_true (by omega)) .plain <| kmv rfl <| RunK.passed rfl rfl rfl <| RunK.passed rfl rfl rfl <| RunK.passed rfl rfl rfl <| kpt rfl rfl <| kmv rfl <| RunK.passed rfl rfl rfl <| RunK.passed rfl rfl rfl <| RunK.passed rfl rfl rfl <| kpt rfl rfl <| kmv rfl ?_; refine RunK.passed rfl rfl rfl <| RunK.passed rfl rfl rfl <| RunK.passed rfl rfl rfl <| kpt rfl rfl <| kas rfl <| RunK.nil <| LWP.condT rfl ?_; refine LWP.seq <| rgN <| kas rfl <| RunK.nil <| LWP.ret ?_)
    exact ⟨[_], ⟨rfl, trivial⟩, rfl⟩
  by_cases c2 : 24 < nw
  · rw [show chkR ⟨nw, old, ex⟩ last = 1 from if_pos (by simp only; omega)]
    (refine LWP.seq <| rgN <| K.box rfl rfl rfl .plain <| kas rfl <| RunK.nil <| LWP.seq <| LWP.block <| LWP.seq <| rgN <| kfa rfl rfl ?_; refine kl1 rfl rfl rfl <| kmv rfl <| K.leq rfl rfl (decide_eq_false (by omega)) .plain <| kmv rfl <| K.fieldAddr rfl rfl (.taken rfl rfl) ?_; refine K.loadOne rfl rfl rfl (.taken rfl rfl) ?_; refine K.gtr rfl rfl (decide_eq_true (by omega)) (.taken rfl rfl) ?_; refine kpf rfl rfl <| kmv rfl <| RunK.passed rfl rfl rfl <| RunK.passed rfl rfl rfl <| RunK.passed rfl rfl rfl <| kpt rfl rfl <| kmv rfl <| RunK.passed rfl rfl rfl <| RunK.passed rfl rfl rfl <| RunK.passed rfl rfl rfl <| kpt rfl rfl <| kas rfl <| RunK.nil <| LWP.condT rfl ?_; refine LWP.seq <| rgN <| kas rfl <| RunK.nil <| LWP.ret ?_)
    exact ⟨[_], ⟨rfl, trivial⟩, rfl⟩
  by_cases c3 : old < 0
  · rw [show chkR ⟨nw, old, ex⟩ last = 1 from if_pos (by simp only; omega)]
    (refine LWP.seq <| rgN <| K.box rfl rfl rfl .plain <| kas rfl <| RunK.nil <| LWP.seq <| LWP.block <| LWP.seq <| rgN <| kfa rfl rfl ?_; refine kl1 rfl rfl rfl <| kmv rfl <| K.leq rfl rfl (decide_eq_false (by omega)) .plain <| kmv rfl <| K.fieldAddr rfl rfl (.taken rfl rfl) ?_; refine K.loadOne rfl rfl rfl (.taken rfl rfl) ?_; refine K.gtr rfl rfl (decide_eq_false (by omega)) (.taken rfl rfl) ?_; refine kpf rfl rfl <| kmv rfl <| K.fieldAddr rfl rfl (.taken rfl rfl) ?_; refine K.loadOne rfl rfl rfl (.taken rfl rfl) ?_; refine K.lss rfl rfl (decide_eq_true (by omega)) (.taken rfl rfl) ?_; refine kpf rfl rfl <| kmv rfl <| RunK.passed rfl rfl rfl <| RunK.passed rfl rfl rfl <| RunK.passed rfl rfl rfl <| kpt rfl rfl <| kas rfl <| RunK.nil <| LWP.condT rfl ?_; refine LWP.seq <| rgN <| kas rfl <| RunK.nil <| LWP.ret ?_)
    exact ⟨[_], ⟨rfl, trivial⟩, rfl⟩
  by_cases c4 : 24 < old
  · rw [show chkR ⟨nw, old, ex⟩ last = 1 from if_pos (by simp only; omega)]
    (refine LWP.seq <| rgN <| K.box rfl rfl rfl .plain <| kas rfl <| RunK.nil <| LWP.seq <| LWP.block <| LWP.seq <| rgN <| kfa rfl rfl ?_; refine kl1 rfl rfl rfl <| kmv rfl <| K.leq rfl rfl (decide_eq_false (by omega)) .plain <| kmv rfl <| K.fieldAddr rfl rfl (.taken rfl rfl) ?_; refine K.loadOne rfl rfl rfl (.taken rfl rfl) ?_; refine K.gtr rfl rfl (decide_eq_false (by omega)) (.taken rfl rfl) ?_; refine kpf rfl rfl <| kmv rfl <| K.fieldAddr rfl rfl (.taken rfl rfl) ?_; refine K.loadOne rfl rfl rfl (.taken rfl rfl) ?_; refine K.lss rfl rfl (decide_eq_false (by omega)) (.taken rfl rfl) ?_; refine kpf rfl rfl <| kmv rfl <| K.fieldAddr rfl rfl (.taken rfl rfl) ?_; refine K.loadOne rfl rfl rfl (.taken rfl rfl) ?_; refine K.gtr rfl rfl (decide_eq_true (by omega)) (.taken rfl rfl) ?_; refine kpf rfl rfl <| kas rfl <| RunK.nil <| LWP.condT rfl ?_; refine LWP.seq <| rgN <| kas rfl <| RunK.nil <| LWP.ret ?_)
    exact ⟨[_], ⟨rfl, trivial⟩, rfl⟩
  have e1 : chkR ⟨nw, old, ex⟩ last = if old = 0 ∧ ex ≠ [] then 4 else if 8 < ex.length then 5 else firstX ex := if_neg (by simp only; omega)
  rw [e1]
  have hl : ex ≠ [] ↔ 0 < ex.length := by rw [List.length_pos_iff]
  by_cases c5 : old = 0
  · by_cases c6 : 0 < ex.length
    · rw [if_pos ⟨c5, hl.2 c6⟩]
      (refine LWP.seq <| rgN <| K.box rfl rfl rfl .plain <| kas rfl <| RunK.nil <| LWP.seq <| LWP.block <| LWP.seq <| rgN <| kfa rfl rfl ?_; refine kl1 rfl rfl rfl <| kmv rfl <| K.leq rfl rfl (decide_eq_false (by omega)) .plain <| kmv rfl <| K.fieldAddr rfl rfl (.taken rfl rfl) ?_; refine K.loadOne rfl rfl rfl (.taken rfl rfl) ?_; refine K.gtr rfl rfl (decide_eq_false (by omega)) (.taken rfl rfl) ?_; refine kpf rfl rfl <| kmv rfl <| K.fieldAddr rfl rfl (.taken rfl rfl) ?_; refine K.loadOne rfl rfl rfl (.taken rfl rfl) ?_; refine K.lss rfl rfl (decide_eq_false (by omega)) (.taken rfl rfl) ?_; refine kpf rfl rfl <| kmv rfl <| K.fieldAddr rfl rfl (.taken rfl rfl) ?_; refine K.loadOne rfl rfl rfl (.taken rfl rfl) ?_; refine K.gtr rfl rfl (decide_eq_false (by omega)) (.taken rfl rfl) ?_; refine kpf rfl rfl <| kas rfl <| RunK.nil <| LWP.condF rfl ?_; refine LWP.seq <| rgN <| kfa rfl rfl ?_; refine kl1 rfl rfl rfl <| keq rfl rfl (beq_iff_eq.2 c5) <| kmv rfl <| K.fieldAddr rfl rfl (.taken rfl rfl) ?_; refine K.loadOne rfl rfl rfl (.taken rfl rfl) ?_; refine K.lenX rfl SliceT.h rfl (.taken rfl rfl) ?_; refine K.gtr rfl rfl (decide_eq_true (by omega)) (.taken rfl rfl) ?_; refine kpt rfl rfl <| kas rfl <| RunK.nil <| LWP.condT rfl ?_; refine LWP.seq <| rgN <| kas rfl <| RunK.nil <| LWP.ret ?_)
      exact ⟨[_], ⟨rfl, trivial⟩, rfl⟩
    · have e0 : ex = [] := by
        by_cases h : ex = []
        · exact h
        · exact absurd (hl.1 h) c6
      subst e0
      rw [if_neg (fun h => h.2 rfl), if_neg (by decide)]
      ((refine LWP.seq <| rgN <| K.box rfl rfl rfl .plain <| kas rfl <| RunK.nil <| LWP.seq <| LWP.block <| LWP.seq <| rgN <| kfa rfl rfl ?_; refine kl1 rfl rfl rfl <| kmv rfl <| K.leq rfl rfl (decide_eq_false (by omega)) .plain <| kmv rfl <| K.fieldAddr rfl rfl (.taken rfl rfl) ?_; refine K.loadOne rfl rfl rfl (.taken rfl rfl) ?_; refine K.gtr rfl rfl (decide_eq_false (by omega)) (.taken rfl rfl) ?_; refine kpf rfl rfl <| kmv rfl <| K.fieldAddr rfl rfl (.taken rfl rfl) ?_; refine K.loadOne rfl rfl rfl (.taken rfl rfl) ?_; refine K.lss rfl rfl (decide_eq_false (by omega)) (.taken rfl rfl) ?_; refine kpf rfl rfl <| kmv rfl <| K.fieldAddr rfl rfl (.taken rfl rfl) ?_; refine K.loadOne rfl rfl rfl (.taken rfl rfl) ?_; refine K.gtr rfl rfl (decide_eq_false (by omega)) (.taken rfl rfl) ?_; refine kpf rfl rfl <| kas rfl <| RunK.nil <| LWP.condF rfl ?_; refine LWP.seq <| rgN <| kfa rfl rfl ?_); (refine kl1 rfl rfl rfl <| keq rfl rfl (beq_iff_eq.2 c5) <| kmv rfl <| K.fieldAddr rfl rfl (.taken rfl rfl) ?_; refine K.loadOne rfl rfl rfl (.taken rfl rfl) ?_; refine K.lenX rfl SliceT.h rfl (.taken rfl rfl) ?_; refine K.gtr rfl rfl (decide_eq_false (by decide)) (.taken rfl rfl) ?_; refine kpt rfl rfl <| kas rfl <| RunK.nil <| LWP.condF rfl ?_; refine LWP.seq <| rgN <| kfa rfl rfl ?_; refine kl1 rfl rfl rfl <| K.lenX rfl SliceT.h rfl .plain ?_; refine K.gtr rfl rfl (decide_eq_false (by decide)) .plain <| kas rfl <| RunK.nil <| LWP.condF rfl ?_; refine LWP.skip ?_; refine LWP.seq <| LWP.seq <| rgN <| kfa rfl rfl ?_; refine kl1 rfl rfl rfl <| K.lenX rfl SliceT.h rfl .plain ?_; refine kmv rfl <| RunK.nil <| LWP.block ?_))
      refine LWP.loop (fun m σ => m = 0 ∧ σ = ⟨[(46, Ln .i64 0), (47, Ln .i64 0)], [], X⟩) 0 ⟨⟨[(46, Ln .i64 0), (47, Ln .i64 0)], [], X⟩, Le.of (by exact ⟨rfl, rfl, trivial⟩) (by exact trivial) (by exact rfl) (by exact rfl) (by repeat' (first | refine all_cons_true ?_ ?_ | rfl | exact bytes_inUse | exact vals_inUse | exact mid_inUse rfl)), rfl, rfl⟩ ?_
      rintro m σ ⟨rfl, rfl⟩
      (refine LWP.seq <| rgN <| klt rfl rfl (r := false) rfl <| RunK.nil <| LWP.seq <| LWP.condF rfl ?_; refine LWP.exit <| LWP.seq <| rgN <| kas rfl <| RunK.nil <| LWP.ret ?_)
      exact ⟨[_], ⟨rfl, trivial⟩, rfl⟩
  rw [if_neg (fun h => c5 h.1)]
  by_cases c7 : 8 < ex.length
  · rw [if_pos c7]
    (refine LWP.seq <| rgN <| K.box rfl rfl rfl .plain <| kas rfl <| RunK.nil <| LWP.seq <| LWP.block <| LWP.seq <| rgN <| kfa rfl rfl ?_; refine kl1 rfl rfl rfl <| kmv rfl <| K.leq rfl rfl (decide_eq_false (by omega)) .plain <| kmv rfl <| K.fieldAddr rfl rfl (.taken rfl rfl) ?_; refine K.loadOne rfl rfl rfl (.taken rfl rfl) ?_; refine K.gtr rfl rfl (decide_eq_false (by omega)) (.taken rfl rfl) ?_; refine kpf rfl rfl <| kmv rfl <| K.fieldAddr rfl rfl (.taken rfl rfl) ?_; refine K.loadOne rfl rfl rfl (.taken rfl rfl) ?_; refine K.lss rfl rfl (decide_eq_false (by omega)) (.taken rfl rfl) ?_; refine kpf rfl rfl <| kmv rfl <| K.fieldAddr rfl rfl (.taken rfl rfl) ?_; refine K.loadOne rfl rfl rfl (.taken rfl rfl) ?_; refine K.gtr rfl rfl (decide_eq_false (by omega)) (.taken rfl rfl) ?_; refine kpf rfl rfl <| kas rfl <| RunK.nil <| LWP.condF rfl ?_; refine LWP.seq <| rgN <| kfa rfl rfl ?_; refine kl1 rfl rfl rfl <| keq rfl rfl (beq_eq_false_iff_ne.2 c5) <| kmv rfl <| RunK.passed rfl rfl rfl <| RunK.passed rfl rfl rfl <| RunK.passed rfl rfl rfl <| RunK.passed rfl rfl rfl <| kpf rfl rfl <| kas rfl <| RunK.nil <| LWP.condF rfl ?_; refine LWP.seq <| rgN <| kfa rfl rfl ?_; refine kl1 rfl rfl rfl <| K.lenX rfl SliceT.h rfl .plain ?_; refine K.gtr rfl rfl (decide_eq_true (by omega)) .plain <| kas rfl <| RunK.nil <| LWP.condT rfl ?_; refine LWP.seq <| rgN <| kas rfl <| RunK.nil <| LWP.ret ?_)
    exact ⟨[_], ⟨rfl, trivial⟩, rfl⟩
  rw [if_neg c7]
  (refine LWP.seq <| rgN <| K.box rfl rfl rfl .plain <| kas rfl <| RunK.nil <| LWP.seq <| LWP.block <| LWP.seq <| rgN <| kfa rfl rfl ?_; refine kl1 rfl rfl rfl <| kmv rfl <| K.leq rfl rfl (decide_eq_false (by omega)) .plain <| kmv rfl <| K.fieldAddr rfl rfl (.taken rfl rfl) ?_; refine K.loadOne rfl rfl rfl (.taken rfl rfl) ?_; refine K.gtr rfl rfl (decide_eq_false (by omega)) (.taken rfl rfl) ?_; refine kpf rfl rfl <| kmv rfl <| K.fieldAddr rfl rfl (.taken rfl rfl) ?_; refine K.loadOne rfl rfl rfl (.taken rfl rfl) ?_; refine K.lss rfl rfl (decide_eq_false (by omega)) (.taken rfl rfl) ?_; refine kpf rfl rfl <| kmv rfl <| K.fieldAddr rfl rfl (.taken rfl rfl) ?_; refine K.loadOne rfl rfl rfl (.taken rfl rfl) ?_; refine K.gtr rfl rfl (decide_eq_false (by omega)) (.taken rfl rfl) ?_; refine kpf rfl rfl <| kas rfl <| RunK.nil <| LWP.condF rfl ?_; refine LWP.seq <| rgN <| kfa rfl rfl ?_; refine kl1 rfl rfl rfl <| keq rfl rfl (beq_eq_false_iff_ne.2 c5) <| kmv rfl <| RunK.passed rfl rfl rfl <| RunK.passed rfl rfl rfl <| RunK.passed rfl rfl rfl <| RunK.passed rfl rfl rfl <| kpf rfl rfl <| kas rfl <| RunK.nil <| LWP.condF rfl ?_; refine LWP.seq <| rgN <| kfa rfl rfl ?_; refine kl1 rfl rfl rfl <| K.lenX rfl SliceT.h rfl .plain ?_; refine K.gtr rfl rfl (decide_eq_false (by omega)) .plain <| kas rfl <| RunK.nil <| LWP.condF rfl ?_; refine LWP.skip ?_; refine LWP.seq <| LWP.seq <| rgN <| kfa rfl rfl ?_; refine kl1 rfl rfl rfl <| K.lenX rfl SliceT.h rfl .plain ?_; refine kmv rfl <| RunK.nil <| LWP.block ?_)
  refine LWP.loop (fun m σ => ∃ i : Nat, i ≤ ex.length ∧ m = ex.length - i ∧ firstX ex = firstX (ex.drop i) ∧ σ = ⟨[(45, Lx ead ex.length ecap), (46, Ln .i64 (ex.length : Nat)), (47, Ln .i64 (i : Nat))], [], X⟩) ex.length
    ⟨⟨[(45, Lx ead ex.length ecap), (46, Ln .i64 (ex.length : Nat)), (47, Ln .i64 (0 : Nat))], [], X⟩, Le.of (by exact ⟨rfl, rfl, rfl, trivial⟩) (by exact trivial) (by exact rfl) (by exact rfl) (by repeat' (first | refine all_cons_true ?_ ?_ | rfl | exact bytes_inUse | exact vals_inUse | exact mid_inUse rfl)), 0, by omega, by omega, rfl, rfl⟩ ?_
  rintro m σ ⟨i, hi, rfl, hpre, rfl⟩
  by_cases hlt : i < ex.length
  case neg =>
    rw [hpre, List.drop_eq_nil_of_le (by omega)]
    (refine LWP.seq <| rgN <| klt rfl rfl (decide_eq_false (by omega)) <| RunK.nil <| LWP.seq <| LWP.condF rfl ?_; refine LWP.exit <| LWP.seq <| rgN <| kas rfl <| RunK.nil <| LWP.ret ?_)
    exact ⟨[_], ⟨rfl, trivial⟩, rfl⟩
  obtain ⟨c, hc⟩ : ∃ c, ex[i]? = some c := ⟨_, List.getElem?_eq_getElem hlt⟩
  obtain ⟨eb, eo, earr, eel, efr, vad, vcap, rfl, hEX, hec, hI⟩ := hE.get hc
  have hio : eo + Int.toNat (i : Int) * 1 = eo + i * 1 := by simp
  have hG := gEncode' X c vad vcap hI (h2 c (List.mem_of_getElem? hc))
  rw [drop_at hc, firstX_cons] at hpre
  by_cases he : encErr c = 0
  · rw [if_pos he] at hpre
    rw [he] at hG
    have hadd : IntKind.i64.wrap (((i : Nat) : Int) + 1) = ((i + 1 : Nat) : Int) := by rw [wrap_i64 (by omega)]; omega
    (refine LWP.seq <| rgN <| klt rfl rfl (decide_eq_true (by omega)) <| RunK.nil <| LWP.seq <| LWP.condT rfl ?_; refine LWP.skip ?_; refine LWP.seq <| LWP.block <| LWP.seq <| rgN <| K.indexX rfl rfl SliceT.h (by omega) hio .plain <| K.loadX rfl hEX rfl hec .plain <| kas rfl <| RunK.nil <| LWP.seq <| rgN <| kmv rfl <| kca rfl rfl hG <| kmv rfl <| kex rfl rfl ?_; refine kex rfl rfl <| kas rfl <| kas rfl <| RunK.nil <| LWP.seq <| rgN <| kmv rfl <| kne rfl rfl (r := false) rfl <| RunK.nil <| LWP.condF rfl ?_; refine LWP.skip ?_; refine rgN <| kad rfl rfl hadd <| kmv rfl <| RunK.nil ?_)
    exact ⟨_, ⟨[(45, Lx (some ⟨eb, eo, none⟩) ex.length ecap), (46, Ln .i64 (ex.length : Nat)), (47, Ln .i64 (i + 1 : Nat))], [], X⟩, by omega, Le.of (by exact ⟨rfl, rfl, rfl, trivial⟩) (by exact trivial) (by exact rfl) (by exact rfl) (by repeat' (first | refine all_cons_true ?_ ?_ | rfl | exact bytes_inUse | exact vals_inUse | exact mid_inUse rfl)), i + 1, by omega, rfl, hpre, rfl⟩
  · rw [if_neg he] at hpre
    rw [hpre]
    have hne : (encErr c != 0) = true := by rw [bne_iff_ne]; exact he
    generalize encErr c = ce at *
    (refine LWP.seq <| rgN <| klt rfl rfl (decide_eq_true (by omega)) <| RunK.nil <| LWP.seq <| LWP.condT rfl ?_; refine LWP.skip ?_; refine LWP.seq <| LWP.block <| LWP.seq <| rgN <| K.indexX rfl rfl SliceT.h (by omega) hio .plain <| K.loadX rfl hEX rfl hec .plain <| kas rfl <| RunK.nil <| LWP.seq <| rgN <| kmv rfl <| kca rfl rfl hG <| kmv rfl <| kex rfl rfl ?_; refine kex rfl rfl <| kas rfl <| kas rfl <| RunK.nil <| LWP.seq <| rgN <| kmv rfl <| kne rfl rfl hne <| RunK.nil <| LWP.condT rfl ?_; refine LWP.seq <| rgN <| kmv rfl <| kas rfl <| RunK.nil <| LWP.ret ?_)
    exact ⟨[_], ⟨rfl, trivial⟩, rfl⟩
set_option maxHeartbeats 3200000 in
theorem kCheck (p : Pg) (ad : Option Addr) (cap : Nat) (hin : RulesIn X ad p.rs) (hbig : p.rs.length < 4611686018427387904) (hsz : sizeR p.rs) : PSpec Tryz.prog X 44 [LPg p.va p.vb ad p.rs.length cap] (Ln .i64 (chkP p)) := by
  obtain ⟨va, vb, rs⟩ := p
  simp only at hin hbig hsz ⊢
  have v1 := kIsVersion X va
  have v2 := kIsVersion X vb
  refine PSpec.intro Tryz.func44 rfl (by kernel_rfl) rfl rfl ?_
  intro C
  cases q1 : verOk va with
  | false =>
    rw [q1] at v1
    rw [chkP_bad (by simp only; rw [q1, Bool.false_and]; decide)]
    (refine LWP.seq <| rgN <| K.box rfl rfl rfl .plain <| kas rfl <| RunK.nil <| LWP.seq <| LWP.seq <| rgN <| kfa rfl rfl ?_; refine kl1 rfl rfl rfl <| kca rfl rfl v1 <| K.not rfl rfl .plain <| kmv rfl <| RunK.passed rfl rfl rfl <| RunK.passed rfl rfl rfl <| RunK.passed rfl rfl rfl <| RunK.passed rfl rfl rfl <| kpt rfl rfl <| RunK.nil <| LWP.condT rfl ?_; refine LWP.seq <| rgN <| kas rfl <| RunK.nil <| LWP.ret ?_)
    exact ⟨[_], ⟨rfl, trivial⟩, rfl⟩
  | true =>
  rw [q1] at v1
  cases q2 : verOk vb with
  | false =>
    rw [q2] at v2
    rw [chkP_bad (by simp only; rw [q2, Bool.and_false]; decide)]
    (refine LWP.seq <| rgN <| K.box rfl rfl rfl .plain <| kas rfl <| RunK.nil <| LWP.seq <| LWP.seq <| rgN <| kfa rfl rfl ?_; refine kl1 rfl rfl rfl <| kca rfl rfl v1 <| K.not rfl rfl .plain <| kmv rfl <| K.fieldAddr rfl rfl (.taken rfl rfl) ?_; refine K.loadOne rfl rfl rfl (.taken rfl rfl) ?_; refine gca rfl rfl v2 rfl rfl <| K.not rfl rfl (.taken rfl rfl) ?_; refine kpf rfl rfl <| RunK.nil <| LWP.condT rfl ?_; refine LWP.seq <| rgN <| kas rfl <| RunK.nil <| LWP.ret ?_)
    exact ⟨[_], ⟨rfl, trivial⟩, rfl⟩
  | true =>
  rw [q2] at v2
  rw [chkP_good (by simp only; rw [q1, q2]; rfl)]
  (refine LWP.seq <| rgN <| K.box rfl rfl rfl .plain <| kas rfl <| RunK.nil <| LWP.seq <| LWP.seq <| rgN <| kfa rfl rfl ?_; refine kl1 rfl rfl rfl <| kca rfl rfl v1 <| K.not rfl rfl .plain <| kmv rfl <| K.fieldAddr rfl rfl (.taken rfl rfl) ?_; refine K.loadOne rfl rfl rfl (.taken rfl rfl) ?_; refine gca rfl rfl v2 rfl rfl <| K.not rfl rfl (.taken rfl rfl) ?_; refine kpf rfl rfl <| RunK.nil <| LWP.condF rfl ?_; refine LWP.skip ?_; refine LWP.seq <| rgN <| kas rfl <| RunK.nil <| LWP.seq <| LWP.seq <| rgN <| kfa rfl rfl ?_; refine kl1 rfl rfl rfl <| K.lenX rfl SliceT.h rfl .plain ?_; refine kmv rfl <| RunK.nil <| LWP.block ?_)
  simp only
  refine LWP.loop (fun m σ => ∃ i : Nat, i ≤ rs.length ∧ m = rs.length - i ∧ chkRs 0 rs = chkRs (lastR rs i) (rs.drop i) ∧ 0 ≤ lastR rs i ∧ σ = ⟨[(3, Ln .i64 (lastR rs i)), (18, Lx ad rs.length cap), (19, Ln .i64 (rs.length : Nat)), (20, Ln .i64 (i : Nat))], [], X⟩) rs.length
    ⟨⟨[(3, Ln .i64 (lastR rs 0)), (18, Lx ad rs.length cap), (19, Ln .i64 (rs.length : Nat)), (20, Ln .i64 (0 : Nat))], [], X⟩, Le.of (by exact ⟨rfl, rfl, rfl, rfl, trivial⟩) (by exact trivial) (by exact rfl) (by exact rfl) (by repeat' (first | refine all_cons_true ?_ ?_ | rfl | exact bytes_inUse | exact vals_inUse | exact mid_inUse rfl)), 0, by omega, by omega, rfl, Int.le_refl 0, rfl⟩ ?_
  rintro m σ ⟨i, hi, rfl, hpre, hlast, rfl⟩
  by_cases hlt : i < rs.length
  case neg =>
    rw [hpre, List.drop_eq_nil_of_le (by omega)]
    (refine LWP.seq <| rgN <| klt rfl rfl (decide_eq_false (by omega)) <| RunK.nil <| LWP.seq <| LWP.condF rfl ?_; refine LWP.exit <| LWP.seq <| rgN <| kas rfl <| RunK.nil <| LWP.ret ?_)
    exact ⟨[_], ⟨rfl, trivial⟩, rfl⟩
  obtain ⟨r, hr⟩ : ∃ r, rs[i]? = some r := ⟨_, List.getElem?_eq_getElem hlt⟩
  obtain ⟨blk, off, arr, el, fr, ead, ecap, rfl, hX, hsiz, hcs, g1, g2, g3, hE⟩ := hin.get hr
  have hio : off + Int.toNat (i : Int) * 3 = off + i * 3 := by simp
  obtain ⟨hz1, hz2⟩ := hsz r (List.mem_of_getElem? hr)
  have hR := kCheckRule X r ead ecap hE (by omega) hz2 (lastR rs i) hlast
  rw [drop_at hr, chkRs_cons] at hpre
  by_cases he : chkR r (lastR rs i) = 0
  · rw [if_pos he] at hpre
    have hgt := (chkR_zero he).2.2.1
    rw [he] at hR
    have hnl := lastR_at hr
    have hadd : IntKind.i64.wrap (((i : Nat) : Int) + 1) = ((i + 1 : Nat) : Int) := by rw [wrap_i64 (by omega)]; omega
    (refine LWP.seq <| rgN <| klt rfl rfl (decide_eq_true (by omega)) <| RunK.nil <| LWP.seq <| LWP.condT rfl ?_; refine LWP.skip ?_; refine LWP.seq <| LWP.block <| LWP.seq <| rgN <| K.indexX rfl rfl SliceT.h (by omega) hio .plain <| K.loadXagg rfl hX (by kernel_rfl) hsiz hcs .plain <| K.alloc rfl .plain ?_; refine K.storeAll rfl rfl rfl rfl rfl rfl .plain ?_; refine RunK.nil <| LWP.seq <| LWP.seq <| rgN <| K.loadAll rfl rfl rfl .plain ?_; refine kmv rfl <| kca rfl rfl hR <| kas rfl <| RunK.nil <| LWP.seq <| rgN <| kmv rfl <| kne rfl rfl (r := false) rfl <| RunK.nil <| LWP.condF rfl ?_; refine LWP.skip ?_; refine rgN <| kfa rfl rfl ?_; refine kl1 rfl rfl rfl <| kas rfl <| RunK.nil <| rgN <| kad rfl rfl hadd <| kmv rfl <| RunK.nil ?_)
    rw [← hnl] at hpre hgt ⊢
    exact ⟨_, ⟨[(3, Ln .i64 (lastR rs (i + 1))), (18, Lx (some ⟨blk, off, none⟩) rs.length cap), (19, Ln .i64 (rs.length : Nat)), (20, Ln .i64 (i + 1 : Nat))], [], X⟩, by omega, Le.of (by exact ⟨rfl, rfl, rfl, rfl, trivial⟩) (by exact trivial) (by exact rfl) (by exact rfl) (by repeat' (first | refine all_cons_true ?_ ?_ | rfl | exact bytes_inUse | exact vals_inUse | exact mid_inUse rfl)), i + 1, by omega, rfl, hpre, by omega, rfl⟩
  · rw [if_neg he] at hpre
    rw [hpre]
    have hne : (chkR r (lastR rs i) != 0) = true := by rw [bne_iff_ne]; exact he
    generalize chkR r (lastR rs i) = ce at *
    (refine LWP.seq <| rgN <| klt rfl rfl (decide_eq_true (by omega)) <| RunK.nil <| LWP.seq <| LWP.condT rfl ?_; refine LWP.skip ?_; refine LWP.seq <| LWP.block <| LWP.seq <| rgN <| K.indexX rfl rfl SliceT.h (by omega) hio .plain <| K.loadXagg rfl hX (by kernel_rfl) hsiz hcs .plain <| K.alloc rfl .plain ?_; refine K.storeAll rfl rfl rfl rfl rfl rfl .plain ?_; refine RunK.nil <| LWP.seq <| LWP.seq <| rgN <| K.loadAll rfl rfl rfl .plain ?_; refine kmv rfl <| kca rfl rfl hR <| kas rfl <| RunK.nil <| LWP.seq <| rgN <| kmv rfl <| kne rfl rfl hne <| RunK.nil <| LWP.condT rfl ?_; refine LWP.seq <| rgN <| kmv rfl <| kas rfl <| RunK.nil <| LWP.ret ?_)
    exact ⟨[_], ⟨rfl, trivial⟩, rfl⟩
end Go.Proofs.YtnfbccfghgmfiaaGreat
end
section
namespace Go.Proofs.YtnfbccfghgmfiaaGreat
open Go Go.Lg Go.Lg.Fld
set_option maxRecDepth 100000
abbrev Ext (X Y : Nat → Option Obj) : Prop := ∀ b o, X b = some o → Y b = some o
variable (X : Nat → Option Obj)
end Go.Proofs.YtnfbccfghgmfiaaGreat
end
section
namespace Go.Proofs.YtnfbccfghgmfiaaGreat
open Go Go.Lg Go.Lg.Fml Go.Lg.Fld Go.Lg.Arith
set_option maxRecDepth 100000
def RowV (Y : Nat → Option Obj) (vs : List Value) (fs : List (List Nm)) : Prop := vs.length = fs.length ∧ ∀ (i : Nat) (r : List Nm), fs[i]? = some r → ∃ (ad : Option Addr) (cap : Nat), vs[i]? = some (.slice ad r.length cap) ∧ NumsIn Y ad r
theorem RowV.mono {Y Z : Nat → Option Obj} {vs : List Value} {fs : List (List Nm)} (h : RowV Y vs fs) (hm : ∀ b o, Y b = some o → Z b = some o) : RowV Z vs fs := ⟨h.1, fun i r hr => by
  obtain ⟨ad, cap, h1, h2⟩ := h.2 i r hr
  exact ⟨ad, cap, h1, ⟨h2.rows.mono hm, h2.in2⟩⟩⟩
theorem RowV.nil {Y : Nat → Option Obj} : RowV Y [] [] := ⟨rfl, fun i r h => by simp at h⟩
theorem RowV.append {Y : Nat → Option Obj} {vs ws : List Value} {fs gs : List (List Nm)} (h1 : RowV Y vs fs) (h2 : RowV Y ws gs) : RowV Y (vs ++ ws) (fs ++ gs) := by
  refine ⟨by rw [List.length_append, List.length_append, h1.1, h2.1], fun i q hq => ?_⟩
  by_cases hi : i < fs.length
  · rw [List.getElem?_append_left hi] at hq
    obtain ⟨ad, cap, g1, g2⟩ := h1.2 i q hq
    exact ⟨ad, cap, by rw [List.getElem?_append_left (by rw [h1.1]; exact hi)]; exact g1, g2⟩
  · rw [List.getElem?_append_right (by omega)] at hq
    obtain ⟨ad, cap, g1, g2⟩ := h2.2 _ q hq
    exact ⟨ad, cap, by rw [List.getElem?_append_right (by rw [h1.1]; omega), h1.1]; exact g1, g2⟩
theorem RowV.one {Y : Nat → Option Obj} {ad : Option Addr} {cap : Nat} {r : List Nm} (hN : NumsIn Y ad r) : RowV Y [.slice ad r.length cap] [r] := ⟨rfl, fun i q hq => by
  match i, hq with
  | 0, hq =>
    simp only [List.getElem?_cons_zero, Option.some.injEq] at hq
    subst hq
    exact ⟨ad, cap, rfl, hN⟩
  | _ + 1, hq => simp at hq⟩
theorem RowV.frozen {Y : Nat → Option Obj} {vs : List Value} {fs : List (List Nm)} {blk : Nat} {arr : Array Value} {el : TypeId} {fr : Nat × Nat} (h : RowV Y vs fs) (hY : Y blk = some (.cells arr el fr)) (hsp : ∃ sp, arr.toList = vs ++ sp) : FssIn Y (some ⟨blk, 0, none⟩) fs := ⟨fun i r hr => by
  obtain ⟨ad, cap, h1, h2⟩ := h.2 i r hr
  obtain ⟨sp, hs⟩ := hsp
  have hi := (List.getElem?_eq_some_iff.1 h1).1
  have h3 : arr[0 + i]? = some (.slice ad r.length cap) := by rw [Nat.zero_add, ← Array.getElem?_toList, hs, List.getElem?_append_left hi]; exact h1
  have h4 := (Array.getElem?_eq_some_iff.1 h3).1
  exact ⟨blk, 0, arr, el, fr, ad, cap, rfl, hY, by omega, h3, h2⟩⟩
variable (X : Nat → Option Obj)
end Go.Proofs.YtnfbccfghgmfiaaGreat
end
section
namespace Go.Lg
open Go Go.RowKit
theorem joinM_join (X H H2 : Nat → Option Obj) : joinM (joinM X H) H2 = joinM X (joinM H H2) := by
  funext b
  unfold joinM
  cases H2 b <;> rfl
theorem OwnedM.join {C : Ctx} {X H H2 : Nat → Option Obj} (h : OwnedM C X H) (h2 : OwnedM C (joinM X H) H2) : OwnedM C X (joinM H H2) := ⟨fun b o hb => by
  cases hc : H2 b with
  | none => rw [joinM_out hc] at hb; exact h.own b o hb
  | some o' =>
    rw [joinM_in hc] at hb
    cases hb
    obtain ⟨h3, h4, h5⟩ := h2.own b _ hc
    exact ⟨h3, h4, (joinM_none h5).2⟩⟩
theorem joinM_keeps {C : Ctx} {X H H2 : Nat → Option Obj} (h2 : OwnedM C (joinM X H) H2) : ∀ b o, H b = some o → joinM H H2 b = some o := fun b o hb => by
  cases hc : H2 b with
  | none => rw [joinM_out hc]; exact hb
  | some o' =>
    have := (joinM_none (h2.own b o' hc).2.2).1
    rw [this] at hb
    cases hb
section
variable {P : Program} {n : Nat} {C : Ctx} {c : Code} {Q : Exit → St → Prop} {X : Nat → Option Obj}
theorem rel_unslc {S : Nat → Option (Option Box)} {ι : Nat → Nat × Nat} {A B : List CV} {k off len sz : Nat} {x : Box} (hsk : S k = some (some x)) {vs : List Value} (h : CVs.rel S ι (A ++ .slc k off len sz :: B) vs) : ∃ cap : Nat, len ≤ cap ∧ off + cap * sz ≤ (ι k).2 ∧ CVs.rel S ι (A ++ .val (.slice (some ⟨(ι k).1, off, none⟩) len cap) :: B) vs := by
  obtain ⟨va, v, vb, rfl, h1, h2, h3⟩ := rel_mid h
  simp only [CV.rel] at h2
  rw [hsk] at h2
  obtain ⟨cap, rfl, hc, hf⟩ := h2
  exact ⟨cap, hc, hf, CVs.rel_append h1 ⟨rfl, h3⟩⟩
theorem Rel.unslc {ι : Nat → Nat × Nat} {a : Act} {w : World} {s : List (Nat × LV)} {bx : List (Nat × Option Box)} {j k off len sz : Nat} {e : TypeId} {A B : List CV} {row : Bool} {x : Box}
    (hj : Nat.beq j k = false) (hkx : look k bx = some (some x))
    (hr : Rel n C ι ⟨s, (j, some ⟨e, A ++ .slc k off len sz :: B, row⟩) :: bx, X⟩ a w) :
    ∃ cap : Nat, len ≤ cap ∧ off + cap * sz ≤ (ι k).2 ∧ Rel n C ι ⟨s, (j, some ⟨e, A ++ .val (.slice (some ⟨(ι k).1, off, none⟩) len cap) :: B, row⟩) :: bx, X⟩ a w := by
  have hkj : k ≠ j := fun h => by rw [h, Nat.beq_refl] at hj; cases hj
  obtain ⟨arr, fr, g1, g2, g3, g4⟩ := hr.boxes j ⟨e, A ++ .slc k off len sz :: B, row⟩ (by rw [stat_hd, if_pos rfl]) rfl
  have hsk : (⟨s, (j, some ⟨e, A ++ .slc k off len sz :: B, row⟩) :: bx, X⟩ : St).stat k = some (some x) := by rw [stat_hd, if_neg hkj]; exact hkx
  have key : ∃ cap : Nat, len ≤ cap ∧ off + cap * sz ≤ (ι k).2 ∧ Box.rel (⟨s, (j, some ⟨e, A ++ .slc k off len sz :: B, row⟩) :: bx, X⟩ : St).stat ι ⟨e, A ++ .val (.slice (some ⟨(ι k).1, off, none⟩) len cap) :: B, row⟩ arr.toList := by
    unfold Box.rel at g4 ⊢
    cases row with
    | false => exact rel_unslc hsk g4
    | true =>
      obtain ⟨us, sp, e1, h1⟩ := g4
      obtain ⟨cap, hc, hf, h2⟩ := rel_unslc hsk h1
      exact ⟨cap, hc, hf, us, sp, e1, h2⟩
  obtain ⟨cap, hc, hf, g5⟩ := key
  refine ⟨cap, hc, hf, ?_⟩
  generalize hcs : A ++ .slc k off len sz :: B = cs at *
  generalize hcs' : A ++ .val (.slice (some ⟨(ι k).1, off, none⟩) len cap) :: B = cs' at *
  have hlater := later_hd (s := s) (bx := bx) (k := j) ι ⟨e, cs, row⟩ ⟨e, cs', row⟩ X X
  have live : ∀ i b, (⟨s, (j, some ⟨e, cs', row⟩) :: bx, X⟩ : St).stat i = some (some b) → ∃ b0, (⟨s, (j, some ⟨e, cs, row⟩) :: bx, X⟩ : St).stat i = some (some b0) ∧ (i ≠ j → b = b0) := fun i b hi => by
    rw [stat_hd] at hi ⊢
    by_cases e : i = j
    · rw [if_pos e]; exact ⟨_, rfl, fun h => absurd e h⟩
    · rw [if_neg e] at hi ⊢; exact ⟨b, hi, fun _ => rfl⟩
  exact {
    defers := hr.defers, size := hr.size
    slots := fun d lv hd => by
      obtain ⟨v, hv, hvr⟩ := hr.slots d lv hd
      exact ⟨v, hv, LV.rel_later hlater hvr⟩
    boxes := fun i b hi hbk => by
      by_cases ei : i = j
      · subst ei
        rw [stat_hd, if_pos rfl] at hi
        simp only [Option.some.injEq] at hi
        subst hi
        exact ⟨arr, fr, g1, g2, g3, Box.rel_later hlater g5⟩
      · obtain ⟨b0, h0, h1⟩ := live i b hi
        have := h1 ei
        subst this
        obtain ⟨arr, fr, g1, g2, g3, g4⟩ := hr.boxes i b h0 hbk
        exact ⟨arr, fr, g1, g2, g3, Box.rel_later hlater g4⟩
    own := fun i b hi => by obtain ⟨b0, h0, _⟩ := live i b hi; exact hr.own i b0 h0
    inj := fun i i' bi bj hi hj he => by
      obtain ⟨b1, h1, _⟩ := live i bi hi
      obtain ⟨b2, h2, _⟩ := live i' bj hj
      exact hr.inj i i' b1 b2 h1 h2 he
    keep := fun i b hi hge => by obtain ⟨b0, h0, _⟩ := live i b hi; exact hr.keep i b0 h0 hge
    ext := hr.ext
    res := by
      obtain ⟨F, hG⟩ := hr.res
      refine hG.keep (fun i e cs R hi => ?_) (fun _ _ _ _ _ hi => hi) (fun _ _ ho => ho) (fun b _ hx _ _ => hx) (fun i bi hi => ?_)
      · rw [stat_hd] at hi ⊢
        by_cases e : i = j
        · rw [if_pos e] at hi; cases hi
        · rw [if_neg e] at hi ⊢; exact ⟨hi, rfl⟩
      · obtain ⟨b0, h0, _⟩ := live i bi hi
        exact .inl ⟨b0, h0, rfl⟩
    frame := hr.frame, big := hr.big, os := hr.os, tape := hr.tape, output := hr.output }
theorem Rel.fixAlone {ι : Nat → Nat × Nat} {a : Act} {w : World} {s : List (Nat × LV)} {bx : List (Nat × Option Box)} {k : Nat} {e : TypeId} {cs : List CV} {R : Rsc}
    (hs : s.all (fun p => p.2.inUse bx) = true) (hb : bx.all (fun p => match p.2 with | some b => b.cells.all (CV.inUse bx) | none => true) = true) (hk : look k bx = none)
    (hr : Rel n C ι ⟨s, (k, some ⟨e, cs, .res R⟩) :: bx, X⟩ a w) :
    ∃ (H : Nat → Option Obj), R.holds (ι k) H ∧ OwnedM C X H ∧ Rel n C ι ⟨s, bx, joinM X H⟩ a w := by
  have hst : (⟨s, (k, some ⟨e, cs, .res R⟩) :: bx, X⟩ : St).stat k = some (some ⟨e, cs, .res R⟩) := by simp [St.stat, look]
  have hlk : ∀ k' x, look k' bx = some x → k' ≠ k := fun k' x h' e => by rw [e, hk] at h'; cases h'
  have hstb : ∀ k' x, look k' bx = some x → (⟨s, (k, some ⟨e, cs, .res R⟩) :: bx, X⟩ : St).stat k' = some x := fun k' x h' => by
    simp only [St.stat, look]
    cases e : Nat.beq k k' with
    | true => exact absurd (Nat.eq_of_beq_eq_true e).symm (hlk k' x h')
    | false => exact h'
  have hback : ∀ j x, j ≠ k → (⟨s, (k, some ⟨e, cs, .res R⟩) :: bx, X⟩ : St).stat j = some x → look j bx = some x := fun j x hj h' => by
    simp only [St.stat, look] at h'
    cases e : Nat.beq k j with
    | true => exact absurd (Nat.eq_of_beq_eq_true e).symm hj
    | false => rw [e] at h'; exact h'
  obtain ⟨F, hF⟩ := hr.res
  obtain ⟨hR, _⟩ := hF.holds k _ _ _ hst
  refine ⟨F k, hR, ⟨fun b o hb => let h := hF.mem k b o hb; ⟨h.2.2.2.1, h.2.2.1, h.2.2.2.2.1⟩⟩, ?_⟩
  have hon : SameOn bx (⟨s, (k, some ⟨e, cs, .res R⟩) :: bx, X⟩ : St).stat (fun k => look k bx) := fun k' x h' => (hstb k' x h').trans h'.symm
  have hnot : ∀ j b, look j bx = some (some b) → F k (ι j).1 = none := fun j b hj => by
    cases hc : F k (ι j).1 with
    | none => rfl
    | some o => exact absurd ((hF.mem k _ o hc).2.2.2.2.2 j b (hstb j _ hj) rfl) (hlk j _ hj)
  exact {
    defers := hr.defers, size := hr.size
    slots := fun d' lv hd => by
      obtain ⟨v', hv', hr'⟩ := hr.slots d' lv hd
      exact ⟨v', hv', LV.rel_on hon (List.all_eq_true.1 hs _ (look_mem hd)) hr'⟩
    boxes := fun k' b hb' hbk => by
      have hb' : look k' bx = some (some b) := hb'
      obtain ⟨arr', fr', h1, h2, h3, h4⟩ := hr.boxes k' b (hstb k' _ hb') hbk
      exact ⟨arr', fr', h1, h2, h3, Box.rel_on hon (by simpa using List.all_eq_true.1 hb _ (look_mem hb')) h4⟩
    own := fun k' b hb' => by
      have hb' : look k' bx = some (some b) := hb'
      obtain ⟨h1, h2⟩ := hr.own k' b (hstb k' _ hb')
      exact ⟨h1, (joinM_out (hnot k' b hb')).trans h2⟩
    inj := fun k1 k2 b1 b2 h1 h2 he => hr.inj k1 k2 b1 b2 (hstb k1 _ h1) (hstb k2 _ h2) he
    keep := fun k' b hb' hge => hr.keep k' b (hstb k' _ hb') hge
    ext := fun b o hbo => by
      have hbo : joinM X (F k) b = some o := hbo
      cases hc : F k b with
      | none => rw [joinM_out hc] at hbo; exact hr.ext b o hbo
      | some o' =>
        rw [joinM_in hc] at hbo
        cases hbo
        exact (hF.mem k b _ hc).2.1
    res := by
      refine ⟨fun j => open Classical in if j = k then fun _ => none else F j, fun j e' cs' R' hj => ?_, fun j b o ho => ?_, fun i j b h1 h2 => ?_⟩
      · have hj : look j bx = some (some ⟨e', cs', .res R'⟩) := hj
        rw [if_neg (hlk j _ hj)]
        exact hF.holds j e' cs' R' (hstb j _ hj)
      · by_cases ej : j = k
        · rw [if_pos ej] at ho; cases ho
        · rw [if_neg ej] at ho
          obtain ⟨⟨e1, cs1, R1, h1⟩, h2, h3, h4, h5, h6⟩ := hF.mem j b o ho
          refine ⟨⟨e1, cs1, R1, hback j _ ej h1⟩, h2, h3, h4, ?_, fun i bi hi ei => h6 i bi (hstb i _ hi) ei⟩
          have hc : F k b = none := by
            cases hc : F k b with
            | none => rfl
            | some o' => exact absurd (hF.apart j k b (by rw [ho]; simp) (by rw [hc]; simp)) ej
          exact (joinM_out hc).trans h5
      · by_cases ei : i = k
        · rw [if_pos ei] at h1; exact absurd rfl h1
        · by_cases ej : j = k
          · rw [if_pos ej] at h2; exact absurd rfl h2
          · rw [if_neg ei] at h1
            rw [if_neg ej] at h2
            exact hF.apart i j b h1 h2
    frame := hr.frame, big := hr.big, os := hr.os, tape := hr.tape, output := hr.output }
theorem Rel.fixCell {ι : Nat → Nat × Nat} {a : Act} {w : World} {s : List (Nat × LV)} {bx : List (Nat × Option Box)} {j k off len sz : Nat} {e e2 : TypeId} {A B cs : List CV} {row : Bool} {R : Rsc}
    (hs : s.all (fun p => p.2.inUse ((j, none) :: bx)) = true) (hA : A.all (CV.inUse ((j, none) :: bx)) = true) (hB : B.all (CV.inUse ((j, none) :: bx)) = true) (hb : bx.all (fun p => match p.2 with | some b => b.cells.all (CV.inUse ((j, none) :: bx)) | none => true) = true) (hk : look k bx = none) (hjk : Nat.beq j k = false)
    (hr : Rel n C ι ⟨s, (j, some ⟨e2, A ++ .slc k off len sz :: B, row⟩) :: (k, some ⟨e, cs, .res R⟩) :: bx, X⟩ a w) :
    ∃ (ρ : Nat × Nat) (H : Nat → Option Obj) (cap : Nat), R.holds ρ H ∧ OwnedM C X H ∧ len ≤ cap ∧ off + cap * sz ≤ ρ.2 ∧
      Rel n C ι ⟨s, (j, some ⟨e2, A ++ .val (.slice (some ⟨ρ.1, off, none⟩) len cap) :: B, row⟩) :: bx, joinM X H⟩ a w := by
  have hlk : look k ((k, some (⟨e, cs, .res R⟩ : Box)) :: bx) = some (some ⟨e, cs, .res R⟩) := by simp [look]
  obtain ⟨cap, hc, hf, hr2⟩ := hr.unslc hjk hlk
  have hr3 : Rel n C ι ⟨s, (k, some ⟨e, cs, .res R⟩) :: (j, some ⟨e2, A ++ .val (.slice (some ⟨(ι k).1, off, none⟩) len cap) :: B, row⟩) :: bx, X⟩ a w :=
    hr2.same ⟨fun _ => rfl, fun i => look_swap hjk, rfl⟩
  have any : ∀ (y : Option Box) {c : CV}, c.inUse ((j, none) :: bx) = true → c.inUse ((j, y) :: bx) = true := fun y c h => by
    cases c <;> first | rfl | (simp only [CV.inUse, look] at h ⊢; cases hjj : Nat.beq j _ <;> simp_all)
  have anyS : ∀ (y : Option Box) {c : SV}, c.inUse ((j, none) :: bx) = true → c.inUse ((j, y) :: bx) = true := fun y c h => by
    cases c with
    | one c => exact any y h
    | agg l => exact List.all_eq_true.2 fun c hc => any y (List.all_eq_true.1 h c hc)
  have anyL : ∀ (y : Option Box) {c : LV}, c.inUse ((j, none) :: bx) = true → c.inUse ((j, y) :: bx) = true := fun y c h => by
    cases c with
    | sv c => exact anyS y h
    | tup l => exact List.all_eq_true.2 fun c hc => anyS y (List.all_eq_true.1 h c hc)
  obtain ⟨H, hR, hO, hr4⟩ := hr3.fixAlone (List.all_eq_true.2 fun p hp => anyL _ (List.all_eq_true.1 hs p hp)) (by
    rw [List.all_cons, Bool.and_eq_true]
    refine ⟨?_, List.all_eq_true.2 fun p hp => ?_⟩
    · show (A ++ .val _ :: B).all _ = true
      rw [List.all_append, List.all_cons, Bool.and_eq_true, Bool.and_eq_true]
      exact ⟨List.all_eq_true.2 fun c hc => any _ (List.all_eq_true.1 hA c hc), rfl, List.all_eq_true.2 fun c hc => any _ (List.all_eq_true.1 hB c hc)⟩
    · have := List.all_eq_true.1 hb p hp
      cases hp2 : p.2 with
      | none => rfl
      | some b =>
        rw [hp2] at this
        exact List.all_eq_true.2 fun c hc => any _ (List.all_eq_true.1 this c hc)) (by
    simp only [look, hjk]
    exact hk)
  exact ⟨ι k, H, cap, hR, hO, hc, hf, hr4⟩
theorem Leads.fixCell {Mid : St → Prop} {s : List (Nat × LV)} {bx : List (Nat × Option Box)} {j k off len sz : Nat} {e e2 : TypeId} {A B cs : List CV} {row : Bool} {R : Rsc}
    (hs : s.all (fun p => p.2.inUse ((j, none) :: bx)) = true) (hA : A.all (CV.inUse ((j, none) :: bx)) = true) (hB : B.all (CV.inUse ((j, none) :: bx)) = true) (hb : bx.all (fun p => match p.2 with | some b => b.cells.all (CV.inUse ((j, none) :: bx)) | none => true) = true) (hk : look k bx = none) (hjk : Nat.beq j k = false)
    (h : ∀ (ρ : Nat × Nat) (H : Nat → Option Obj) (cap : Nat), R.holds ρ H → OwnedM C X H → len ≤ cap → off + cap * sz ≤ ρ.2 → Leads n C Mid ⟨s, (j, some ⟨e2, A ++ .val (.slice (some ⟨ρ.1, off, none⟩) len cap) :: B, row⟩) :: bx, joinM X H⟩) :
    Leads n C Mid ⟨s, (j, some ⟨e2, A ++ .slc k off len sz :: B, row⟩) :: (k, some ⟨e, cs, .res R⟩) :: bx, X⟩ := ⟨fun ι a w hr => by
  obtain ⟨ρ, H, cap, h1, h2, h3, h4, h5⟩ := hr.fixCell hs hA hB hb hk hjk
  exact (h ρ H cap h1 h2 h3 h4).out ι a w h5⟩
theorem LWP.fixCell {s : List (Nat × LV)} {bx : List (Nat × Option Box)} {j k off len sz : Nat} {e e2 : TypeId} {A B cs : List CV} {row : Bool} {R : Rsc}
    (hs : s.all (fun p => p.2.inUse ((j, none) :: bx)) = true) (hA : A.all (CV.inUse ((j, none) :: bx)) = true) (hB : B.all (CV.inUse ((j, none) :: bx)) = true) (hb : bx.all (fun p => match p.2 with | some b => b.cells.all (CV.inUse ((j, none) :: bx)) | none => true) = true) (hk : look k bx = none) (hjk : Nat.beq j k = false)
    (h : ∀ (ρ : Nat × Nat) (H : Nat → Option Obj) (cap : Nat), R.holds ρ H → OwnedM C X H → len ≤ cap → off + cap * sz ≤ ρ.2 → LWP P n C c Q ⟨s, (j, some ⟨e2, A ++ .val (.slice (some ⟨ρ.1, off, none⟩) len cap) :: B, row⟩) :: bx, joinM X H⟩) :
    LWP P n C c Q ⟨s, (j, some ⟨e2, A ++ .slc k off len sz :: B, row⟩) :: (k, some ⟨e, cs, .res R⟩) :: bx, X⟩ := by
  refine ⟨fun ι a w hr => ?_⟩
  obtain ⟨ρ, H, cap, h1, h2, h3, h4, h5⟩ := hr.fixCell hs hA hB hb hk hjk
  exact (h ρ H cap h1 h2 h3 h4).out ι a w h5
end
end Go.Lg
end
section
namespace Go.Proofs.YtnfbccfghgmfiaaGreat
open Go Go.Lg Go.Lg.Fml Go.Lg.Fld Go.Lg.Arith
set_option maxRecDepth 100000
abbrev SPg (va vb : Int) (ad : Option Addr) (n cap : Nat) : SV := .agg [.val (.int .i64 va), .val (.int .i64 vb), .val (.slice ad n cap)]
def int1 (l : List Int) : List Value := l.map fun n => .int .i64 n
def cdR (t : TypeId) (cs : List (List Ins)) : Rsc := ⟨fun ρ H => (∃ (arr : Array Value) (fr : Nat × Nat), H ρ.1 = some (.cells arr t fr) ∧ arr.size = ρ.2) ∧ CodesIn H (some ⟨ρ.1, 0, none⟩) cs⟩
abbrev cdB (k : Nat) (cs : List (List Ins)) : Nat × Option Box := (k, some ⟨0, [], .res (cdR 50 cs)⟩)
section
variable {n : Nat} {C : Ctx} {X : Nat → Option Obj} {s : List (Nat × LV)} {bx : List (Nat × Option Box)} {k : Nat}
theorem cd_shut {Mid : St → Prop} {t : TypeId} {cs : List (List Ins)} {H : Nat → Option Obj} {vs : List Value} (hO : OwnedM C X H) (G : FormsH H vs cs)
    (h : Leads n C Mid ⟨s, (k, some ⟨0, [], .res (cdR t cs)⟩) :: bx, X⟩) : Leads n C Mid ⟨s, (k, some ⟨t, vs.map .val, false⟩) :: bx, joinM X H⟩ := by
  refine Leads.closeRes (vals := vs) hO (fun ρ fr h1 h2 h3 => ?_) h
  refine ⟨⟨_, fr, withBlock_at _ _ _, by rw [h3]; simp⟩, ?_⟩
  exact forms_block (sp := []) (withBlock_at _ _ _) (by simp) (G.mono (withBlock_old h1))
end
def nilV (k : Nat) : List Value := List.replicate k (.slice none 0 0)
theorem nilV_succ (k : Nat) : nilV (k + 1) = .slice none 0 0 :: nilV k := List.replicate_succ
theorem nilV_len (k : Nat) : (nilV k).length = k := List.length_replicate
theorem nilV_splice {vs : List Value} {k i : Nat} {c : CV} (hi : vs.length = i) : splice ((vs ++ nilV (k + 1)).map CV.val) i [c] = vs.map CV.val ++ c :: (nilV k).map CV.val := by
  unfold splice
  rw [nilV_succ]
  simp only [List.map_append, List.append_assoc]
  have hml : (vs.map CV.val).length = i := by rw [List.length_map, hi]
  generalize vs.map CV.val = R at *
  rw [← hml, List.take_left, List.drop_length_add_append]
  simp
variable (X : Nat → Option Obj)
abbrev Vp' (b : Nat) : LV := .sv (.one (.val (.pointer (some ⟨b, 0, none⟩))))
theorem kIndex (ad : Option Addr) (cap : Nat) (rs : List Rl) (hin : RulesIn X ad rs) (hbig : rs.length < 4611686018427387904) (f : FuncId) (caps : List Value) (p : Rl → Bool)
    (hp : ∀ r ∈ rs, ∀ ead ecap, PSpec Tryz.prog X f ([LPg r.nw r.old ead r.ex.length ecap] ++ caps.map fun v => .sv (.one (.val v))) (Lb (p r))) :
    PSpec Tryz.prog X 61 [Lx ad rs.length cap, Lf f caps] (Ln .i64 (findI p rs)) := by
  refine PSpec.intro Tryz.func61 rfl (by kernel_rfl) rfl rfl ?_
  intro C
  (refine LWP.seq <| rgN <| kas rfl <| RunK.nil <| LWP.seq <| LWP.seq <| rgN <| kmv rfl <| K.lenX rfl SliceT.h rfl .plain ?_; refine kmv rfl <| RunK.nil <| LWP.block ?_)
  refine LWP.loop (fun m σ => ∃ i : Nat, i ≤ rs.length ∧ m = rs.length - i ∧ (∀ (j : Nat) (y : Rl), j < i → rs[j]? = some y → p y = false) ∧ σ = ⟨[(0, Lx ad rs.length cap), (1, Lf f caps), (7, Ln .i64 (rs.length : Nat)), (8, Ln .i64 (i : Nat))], [], X⟩) rs.length
    ⟨_, Le.of (by exact ⟨rfl, rfl, rfl, rfl, trivial⟩) (by exact trivial) (by exact rfl) (by exact rfl) (by exact rfl), 0, by omega, by omega, fun j y hj => absurd hj (by omega), rfl⟩ ?_
  rintro m σ ⟨i, hi, rfl, hpre, rfl⟩
  by_cases hlt : i < rs.length
  · obtain ⟨c, hc⟩ : ∃ c, rs[i]? = some c := ⟨_, List.getElem?_eq_getElem hlt⟩
    obtain ⟨blk, off, arr, el, fr, fad, fcap, rfl, hX, hsz, hcs, _, _, _, hF⟩ := hin.get hc
    have hio : off + Int.toNat (i : Int) * 3 = off + i * 3 := by simp
    have hP := hp c (List.mem_of_getElem? hc) fad fcap
    cases hpc : p c with
    | true =>
      rw [hpc] at hP
      rw [findI_some hpre hc hpc]
      (refine LWP.seq <| rgN <| klt rfl rfl (decide_eq_true (by omega)) <| RunK.nil <| LWP.seq <| LWP.condT rfl ?_; refine LWP.skip ?_; refine LWP.seq <| LWP.block <| LWP.seq <| rgN <| kmv rfl <| kas rfl <| RunK.nil <| LWP.seq <| rgN <| kmv rfl <| kmv rfl <| kmv rfl <| K.indexX rfl rfl SliceT.h (by omega) hio .plain <| K.loadXagg rfl hX (by kernel_rfl) hsz hcs .plain ?_; refine K.callF rfl rfl rfl hP .plain ?_; refine RunK.nil <| LWP.condT rfl ?_; refine LWP.seq <| rgN <| kmv rfl <| kas rfl <| RunK.nil <| LWP.ret ?_)
      exact ⟨[_], ⟨rfl, trivial⟩, rfl⟩
    | false =>
      rw [hpc] at hP
      (refine LWP.seq <| rgN <| klt rfl rfl (decide_eq_true (by omega)) <| RunK.nil <| LWP.seq <| LWP.condT rfl ?_; refine LWP.skip ?_; refine LWP.seq <| LWP.block <| LWP.seq <| rgN <| kmv rfl <| kas rfl <| RunK.nil <| LWP.seq <| rgN <| kmv rfl <| kmv rfl <| kmv rfl <| K.indexX rfl rfl SliceT.h (by omega) hio .plain <| K.loadXagg rfl hX (by kernel_rfl) hsz hcs .plain ?_; refine K.callF rfl rfl rfl hP .plain ?_; refine RunK.nil <| LWP.condF rfl ?_; refine LWP.skip ?_; refine rgN <| kad rfl rfl (wrap_i64 (by omega)) <| kmv rfl <| RunK.nil ?_)
      exact ⟨_, _, by omega, Le.of (by exact ⟨rfl, rfl, rfl, rfl, trivial⟩) (by exact trivial) (by exact rfl) (by exact rfl) (by exact rfl), i + 1, by omega, rfl, (fun j y hj hy => by
        by_cases e : j = i
        · subst e; rw [hc] at hy; cases hy; exact hpc
        · exact hpre j y (by omega) hy), rfl⟩
  · rw [findI_none fun j y hy => hpre j y (by have := (List.getElem?_eq_some_iff.1 hy).1; omega) hy]
    (refine LWP.seq <| rgN <| klt rfl rfl (decide_eq_false (by omega)) <| RunK.nil <| LWP.seq <| LWP.condF rfl ?_; refine LWP.exit <| LWP.seq <| rgN <| kas rfl <| RunK.nil <| LWP.ret ?_)
    exact ⟨[_], ⟨rfl, trivial⟩, rfl⟩
end Go.Proofs.YtnfbccfghgmfiaaGreat
end
section
namespace Go.Proofs.YtnfbccfghgmfiaaGreat
open Go Go.Lg Go.Lg.Fml Go.Lg.Fld Go.Lg.Arith
set_option maxRecDepth 100000
theorem firstE_shift {f : Nat → Int} : ∀ n i, firstE f (i + 1) n = firstE (fun j => f (j + 1)) i n
  | 0, _ => rfl
  | n + 1, i => by
    show (if f (i + 1) = 0 then firstE f (i + 1 + 1) n else f (i + 1)) = (if f (i + 1) = 0 then firstE (fun j => f (j + 1)) (i + 1) n else f (i + 1))
    rw [firstE_shift n (i + 1)]
theorem seqE_cons {α : Type} {g : α → Int} {x : α} {t : List α} : seqE g (x :: t) = if g x = 0 then seqE g t else g x := by
  show (if atE g (x :: t) 0 = 0 then firstE (atE g (x :: t)) (0 + 1) t.length else atE g (x :: t) 0) = _
  rw [firstE_shift]
  rfl
theorem seqE_uses {fs : List Fl} {f : Fl} : ∀ l : List Ins, seqE (findE fs f) (usesX l) = seqE (findE fs f) l
  | [] => rfl
  | x :: t => by
    have ih := seqE_uses (fs := fs) (f := f) t
    have h1 : usesX (x :: t) = if (x.op == 2 || x.op == 3) = true then x :: usesX t else usesX t := List.filter_cons
    rw [h1, seqE_cons]
    by_cases h : x.op = 2 ∨ x.op = 3
    · rw [if_pos (by simpa using h), seqE_cons, ih]
    · rw [if_neg (by simpa using h), findE_skip h, if_pos rfl, ih]
theorem uses_mem {l : List Ins} {x : Ins} (h : x ∈ usesX l) : x ∈ l ∧ (x.op = 2 ∨ x.op = 3) := by
  unfold usesX at h
  rw [List.mem_filter] at h
  exact ⟨h.1, by simpa using h.2⟩
def hdB : List Ins → Bool
  | [x] => x.op == 2 || x.op == 3 || (x.op == 1 && decide (x.k = (false, 0)))
  | _ => false
theorem refE_hd {f : Fl} {l : List Ins} (h : chkX l = 0) : refE f l = if f.kind = 10 ∧ hdB l = false then 8 else 0 := by
  match l, h with
  | [], h => exact absurd rfl (chkX_ne h)
  | [x], h =>
    have hd := (chkX_zero h).2
    have ho := (okI_facts (chkX_ok h x (List.mem_singleton.2 rfl))).1
    have ht : takes x.op = 0 := by
      by_cases e : takes x.op = 0
      · exact e
      · exfalso
        unfold dep at hd
        rw [if_neg (by omega)] at hd
        cases hd
    have h4 : x.op ≤ 4 := by
      unfold takes at ht
      by_cases e : x.op ≤ 4
      · exact e
      · exfalso
        by_cases a1 : x.op = 16
        · rw [if_pos a1] at ht; cases ht
        · rw [if_neg a1] at ht
          by_cases a2 : x.op = 10 ∨ x.op = 15
          · rw [if_pos a2] at ht; cases ht
          · rw [if_neg a2, if_pos (by omega)] at ht; cases ht
    show (if f.kind = 10 ∧ (x.op = 4 ∨ (x.op = 1 ∧ x.k ≠ (false, 0))) then (8 : Int) else 0) = if f.kind = 10 ∧ (x.op == 2 || x.op == 3 || (x.op == 1 && decide (x.k = (false, 0)))) = false then 8 else 0
    have hi : (x.op = 4 ∨ (x.op = 1 ∧ x.k ≠ (false, 0))) ↔ (x.op == 2 || x.op == 3 || (x.op == 1 && decide (x.k = (false, 0)))) = false := by
      by_cases hk : x.k = (false, 0)
      · simp [hk]; omega
      · simp [hk]; omega
    by_cases hf : f.kind = 10
    · by_cases hb : x.op = 4 ∨ (x.op = 1 ∧ x.k ≠ (false, 0))
      · rw [if_pos ⟨hf, hb⟩, if_pos ⟨hf, hi.1 hb⟩]
      · rw [if_neg (fun h => hb h.2), if_neg (fun h => hb (hi.2 h.2))]
    · rw [if_neg (fun h => hf h.1), if_neg (fun h => hf h.1)]
  | x :: y :: t, h =>
    show (if f.kind = 10 then (8 : Int) else 0) = if f.kind = 10 ∧ hdB (x :: y :: t) = false then 8 else 0
    by_cases hf : f.kind = 10
    · rw [if_pos hf, if_pos ⟨hf, rfl⟩]
    · rw [if_neg hf, if_neg (fun h => hf h.1)]
abbrev Ax (x : Ins) : LV := .sv (.agg ((insV x).map CV.val))
def heB (g f : Fl) (x : Ins) : Bool := if x.op = 2 then decide (x.b < g.count) else decide (f.count ≤ g.count)
variable (X : Nat → Option Obj)
theorem yIsRef (f : Fl) : PSpec Tryz.prog X 22 [Fx f] (Lb (decide (f.kind = 10))) := by
  refine PSpec.intro Tryz.func22 rfl (by kernel_rfl) rfl rfl ?_
  intro C
  (refine LWP.seq <| rgN <| K.box rfl rfl rfl .plain <| kas rfl <| RunK.nil <| LWP.seq <| rgN <| kfa rfl rfl ?_; refine kl1 rfl rfl rfl <| keq rfl rfl (r := decide (f.kind = 10)) (beq_dec f.kind 10) <| kas rfl <| RunK.nil <| LWP.ret ?_)
  exact ⟨[_], ⟨rfl, trivial⟩, rfl⟩
theorem yHas (g f : Fl) (x : Ins) : PSpec Tryz.prog X 38 [Fx g, Fx f, Ax x] (Lb (heB g f x)) := by
  refine PSpec.intro Tryz.func38 rfl (by kernel_rfl) rfl rfl ?_
  intro C
  unfold heB
  by_cases c2 : x.op = 2
  · rw [if_pos c2]
    (refine LWP.seq <| rgN <| K.box rfl rfl rfl .plain <| K.box rfl rfl rfl .plain <| K.box rfl rfl rfl .plain <| kas rfl <| RunK.nil <| LWP.seq <| LWP.seq <| rgN <| kfa rfl rfl ?_; refine kl1 rfl rfl rfl <| keq rfl rfl (r := true) (beq_iff_eq.2 c2) <| RunK.nil <| LWP.condT rfl ?_; refine LWP.seq <| rgN <| kfa rfl rfl ?_; refine kl1 rfl rfl rfl <| kfa rfl rfl ?_; refine kl1 rfl rfl rfl <| klt rfl rfl rfl <| kas rfl <| RunK.nil <| LWP.ret ?_)
    exact ⟨[_], ⟨rfl, trivial⟩, rfl⟩
  · rw [if_neg c2]
    (refine LWP.seq <| rgN <| K.box rfl rfl rfl .plain <| K.box rfl rfl rfl .plain <| K.box rfl rfl rfl .plain <| kas rfl <| RunK.nil <| LWP.seq <| LWP.seq <| rgN <| kfa rfl rfl ?_; refine kl1 rfl rfl rfl <| keq rfl rfl (r := false) (beq_eq_false_iff_ne.2 c2) <| RunK.nil <| LWP.condF rfl ?_; refine LWP.skip ?_; refine LWP.seq <| rgN <| kfa rfl rfl ?_; refine kl1 rfl rfl rfl <| kfa rfl rfl ?_; refine kl1 rfl rfl rfl <| K.geq rfl rfl rfl .plain <| kas rfl <| RunK.nil <| LWP.ret ?_)
    exact ⟨[_], ⟨rfl, trivial⟩, rfl⟩
theorem yUse (c : Cp) (f : Fl) (x : Ins) (cad : Option Addr) (ccap : Nat) (hF : FieldsIn X cad c.fs) (hfl : c.fs.length < 4611686018427387904) (h23 : x.op = 2 ∨ x.op = 3) (ha0 : 0 ≤ x.a) :
    PSpec Tryz.prog X 21 [Cx c cad ccap, Fx f, Ax x] (Ln .i64 (findE c.fs f x)) := by
  refine PSpec.intro Tryz.func21 rfl (by kernel_rfl) rfl rfl ?_
  intro C
  cases hg : c.fs[x.a.toNat]? with
  | none =>
    have hge := List.getElem?_eq_none_iff.1 hg
    rw [findE_out h23 hg]
    (refine LWP.seq <| rgN <| K.box rfl rfl rfl .plain <| K.box rfl rfl rfl .plain <| K.box rfl rfl rfl .plain <| kas rfl <| RunK.nil <| LWP.seq <| LWP.seq <| rgN <| kfa rfl rfl ?_; refine kl1 rfl rfl rfl <| kfa rfl rfl ?_; refine kl1 rfl rfl rfl <| K.lenX rfl SliceT.h rfl .plain ?_; refine K.geq rfl rfl (decide_eq_true (by omega)) .plain <| RunK.nil <| LWP.condT rfl ?_; refine LWP.seq <| rgN <| kas rfl <| RunK.nil <| LWP.ret ?_)
    exact ⟨[_], ⟨rfl, trivial⟩, rfl⟩
  | some g =>
  have hlg := (List.getElem?_eq_some_iff.1 hg).1
  have hE := findE_at (f := f) h23 hg
  obtain ⟨fb, fo, farr, fel, ffr, rfl, hFX, hFz, hFc, _⟩ := hF.cells hg
  have hio3 : fo + Int.toNat x.a * 3 = fo + x.a.toNat * 3 := rfl
  have hH := yHas X g f x
  cases hb : heB g f x with
  | false =>
    rw [hb] at hH
    have h3 : (x.op = 2 ∧ g.count ≤ x.b) ∨ (x.op = 3 ∧ g.count < f.count) := by
      unfold heB at hb
      by_cases c2 : x.op = 2
      · rw [if_pos c2] at hb
        have := of_decide_eq_false hb
        exact .inl ⟨c2, by omega⟩
      · rw [if_neg c2] at hb
        have := of_decide_eq_false hb
        exact .inr ⟨by omega, by omega⟩
    rw [if_pos h3] at hE
    rw [hE]
    (refine LWP.seq <| rgN <| K.box rfl rfl rfl .plain <| K.box rfl rfl rfl .plain <| K.box rfl rfl rfl .plain <| kas rfl <| RunK.nil <| LWP.seq <| LWP.seq <| rgN <| kfa rfl rfl ?_; refine kl1 rfl rfl rfl <| kfa rfl rfl ?_; refine kl1 rfl rfl rfl <| K.lenX rfl SliceT.h rfl .plain ?_; refine K.geq rfl rfl (decide_eq_false (by omega)) .plain <| RunK.nil <| LWP.condF rfl ?_; refine LWP.skip ?_; refine LWP.seq <| rgN <| kfa rfl rfl ?_; refine kl1 rfl rfl rfl <| kfa rfl rfl ?_; refine kl1 rfl rfl rfl <| K.indexX rfl rfl SliceT.h (by omega) hio3 .plain <| K.loadXagg rfl hFX (by kernel_rfl) hFz hFc .plain <| K.alloc rfl .plain ?_; refine K.storeAll rfl rfl rfl rfl rfl rfl .plain ?_; refine RunK.nil <| LWP.seq <| LWP.block <| LWP.seq <| rgN <| K.loadAll rfl rfl rfl .plain ?_; refine K.loadAll rfl rfl rfl .plain ?_; refine K.loadAll rfl rfl rfl .plain ?_; refine kca rfl rfl hH <| K.not rfl rfl .plain <| kas rfl <| RunK.nil <| LWP.condT rfl ?_; refine LWP.seq <| rgN <| kas rfl <| RunK.nil <| LWP.ret ?_)
    exact ⟨[_], ⟨rfl, trivial⟩, rfl⟩
  | true =>
  rw [hb] at hH
  have h3 : ¬((x.op = 2 ∧ g.count ≤ x.b) ∨ (x.op = 3 ∧ g.count < f.count)) := by
    unfold heB at hb
    by_cases c2 : x.op = 2
    · rw [if_pos c2] at hb
      have := of_decide_eq_true hb
      omega
    · rw [if_neg c2] at hb
      have := of_decide_eq_true hb
      omega
  rw [if_neg h3] at hE
  have hg1 := yIsRef X g
  have hg2 := yIsRef X f
  by_cases hk : (g.kind = 10) = (f.kind = 10)
  · rw [if_pos hk] at hE
    rw [hE]
    have hn : (decide (g.kind = 10) != decide (f.kind = 10)) = false := by simp [hk]
    (refine LWP.seq <| rgN <| K.box rfl rfl rfl .plain <| K.box rfl rfl rfl .plain <| K.box rfl rfl rfl .plain <| kas rfl <| RunK.nil <| LWP.seq <| LWP.seq <| rgN <| kfa rfl rfl ?_; refine kl1 rfl rfl rfl <| kfa rfl rfl ?_; refine kl1 rfl rfl rfl <| K.lenX rfl SliceT.h rfl .plain ?_; refine K.geq rfl rfl (decide_eq_false (by omega)) .plain <| RunK.nil <| LWP.condF rfl ?_; refine LWP.skip ?_; refine LWP.seq <| rgN <| kfa rfl rfl ?_; refine kl1 rfl rfl rfl <| kfa rfl rfl ?_; refine kl1 rfl rfl rfl <| K.indexX rfl rfl SliceT.h (by omega) hio3 .plain <| K.loadXagg rfl hFX (by kernel_rfl) hFz hFc .plain <| K.alloc rfl .plain ?_; refine K.storeAll rfl rfl rfl rfl rfl rfl .plain ?_; refine RunK.nil <| LWP.seq <| LWP.block <| LWP.seq <| rgN <| K.loadAll rfl rfl rfl .plain ?_; refine K.loadAll rfl rfl rfl .plain ?_; refine K.loadAll rfl rfl rfl .plain ?_; refine kca rfl rfl hH <| K.not rfl rfl .plain <| kas rfl <| RunK.nil <| LWP.condF rfl ?_; refine LWP.seq <| rgD mixed <| K.loadAll rfl rfl rfl .plain ?_; refine kca rfl rfl hg1 <| K.loadAll rfl rfl rfl .plain ?_; refine kca rfl rfl hg2 <| K.neqB rfl rfl hn .plain <| kas rfl <| RunK.nil <| rgA ?_; refine LWP.condF rfl ?_; refine LWP.skip ?_; refine LWP.seq <| rgN <| kas rfl <| RunK.nil <| LWP.ret ?_)
    exact ⟨[_], ⟨rfl, trivial⟩, rfl⟩
  · rw [if_neg hk] at hE
    rw [hE]
    have hn : (decide (g.kind = 10) != decide (f.kind = 10)) = true := by
      rw [bne_iff_ne]
      intro h
      exact hk (by simpa using h)
    (refine LWP.seq <| rgN <| K.box rfl rfl rfl .plain <| K.box rfl rfl rfl .plain <| K.box rfl rfl rfl .plain <| kas rfl <| RunK.nil <| LWP.seq <| LWP.seq <| rgN <| kfa rfl rfl ?_; refine kl1 rfl rfl rfl <| kfa rfl rfl ?_; refine kl1 rfl rfl rfl <| K.lenX rfl SliceT.h rfl .plain ?_; refine K.geq rfl rfl (decide_eq_false (by omega)) .plain <| RunK.nil <| LWP.condF rfl ?_; refine LWP.skip ?_; refine LWP.seq <| rgN <| kfa rfl rfl ?_; refine kl1 rfl rfl rfl <| kfa rfl rfl ?_; refine kl1 rfl rfl rfl <| K.indexX rfl rfl SliceT.h (by omega) hio3 .plain <| K.loadXagg rfl hFX (by kernel_rfl) hFz hFc .plain <| K.alloc rfl .plain ?_; refine K.storeAll rfl rfl rfl rfl rfl rfl .plain ?_; refine RunK.nil <| LWP.seq <| LWP.block <| LWP.seq <| rgN <| K.loadAll rfl rfl rfl .plain ?_; refine K.loadAll rfl rfl rfl .plain ?_; refine K.loadAll rfl rfl rfl .plain ?_; refine kca rfl rfl hH <| K.not rfl rfl .plain <| kas rfl <| RunK.nil <| LWP.condF rfl ?_; refine LWP.seq <| rgD mixed <| K.loadAll rfl rfl rfl .plain ?_; refine kca rfl rfl hg1 <| K.loadAll rfl rfl rfl .plain ?_; refine kca rfl rfl hg2 <| K.neqB rfl rfl hn .plain <| kas rfl <| RunK.nil <| rgA ?_; refine LWP.condT rfl ?_; refine LWP.seq <| rgN <| kas rfl <| RunK.nil <| LWP.ret ?_)
    exact ⟨[_], ⟨rfl, trivial⟩, rfl⟩
theorem yIsHandle (l : List Ins) (ad : Option Addr) (cap : Nat) (hin : InsIn X ad l) (hl : l.length < 4611686018427387904) :
    PSpec Tryz.prog X 23 [Lx ad l.length cap] (Lb (hdB l)) := by
  refine PSpec.intro Tryz.func23 rfl (by kernel_rfl) rfl rfl ?_
  intro C
  by_cases h1 : l.length = 1
  case neg =>
    have hr : hdB l = false := by
      unfold hdB
      split
      · exact absurd rfl h1
      · rfl
    rw [hr]
    (refine LWP.seq <| rgN <| kas rfl <| RunK.nil <| LWP.seq <| LWP.seq <| rgN <| kmv rfl <| K.lenX rfl SliceT.h rfl .plain ?_; refine kne rfl rfl (r := true) (bne_iff_ne.2 (by omega)) <| RunK.nil <| LWP.condT rfl ?_; refine LWP.seq <| rgN <| kas rfl <| RunK.nil <| LWP.ret ?_)
    exact ⟨[_], ⟨rfl, trivial⟩, rfl⟩
  obtain ⟨x, hx⟩ : ∃ x, l[0]? = some x := ⟨_, List.getElem?_eq_getElem (by omega)⟩
  have hl1 : l = [x] := by
    match l, h1, hx with
    | [y], _, hx => simp only [List.getElem?_cons_zero, Option.some.injEq] at hx; rw [hx]
  obtain ⟨blk, off, arr, el, fr, rfl, hX, hsz, hcs, g0, g1, g2, g3⟩ := hin.six hx
  obtain ⟨_, _, _, hk2⟩ := hin.small x (List.mem_of_getElem? hx)
  have h00 : off + Int.toNat 0 * 6 = off + 0 * 6 := by simp
  have hr : hdB l = (x.op == 2 || x.op == 3 || (x.op == 1 && decide (x.k = (false, 0)))) := by rw [hl1]; rfl
  rw [hr]
  clear hr hl1
  by_cases c2 : x.op = 2
  · have e : (x.op == 2 || x.op == 3 || (x.op == 1 && decide (x.k = (false, 0)))) = true := by rw [c2]; rfl
    rw [e]
    (refine LWP.seq <| rgN <| kas rfl <| RunK.nil <| LWP.seq <| LWP.seq <| rgN <| kmv rfl <| K.lenX rfl SliceT.h rfl .plain ?_; refine kne rfl rfl (r := false) (bne_eq_false_iff_eq.2 (by omega)) <| RunK.nil <| LWP.condF rfl ?_; refine LWP.skip ?_; refine LWP.seq <| LWP.seq <| rgN <| kmv rfl <| K.indexX rfl rfl SliceT.h (by omega) h00 .plain <| K.loadXagg rfl hX (by kernel_rfl) hsz hcs .plain <| K.alloc rfl .plain ?_; refine K.storeAll rfl rfl rfl rfl rfl rfl .plain ?_; refine RunK.nil <| LWP.seq <| rgN <| kfa rfl rfl ?_; refine kl1 rfl rfl rfl <| RunK.nil <| LWP.block <| LWP.seq <| LWP.seq <| rgN <| keq rfl rfl (r := true) (beq_iff_eq.2 c2) <| kas rfl <| RunK.nil <| LWP.condT rfl ?_; refine LWP.skip ?_; refine LWP.condT rfl ?_; refine LWP.seq <| rgN <| kas rfl <| RunK.nil <| LWP.ret ?_)
    exact ⟨[_], ⟨rfl, trivial⟩, rfl⟩
  by_cases c3 : x.op = 3
  · have e : (x.op == 2 || x.op == 3 || (x.op == 1 && decide (x.k = (false, 0)))) = true := by rw [c3]; rfl
    rw [e]
    (refine LWP.seq <| rgN <| kas rfl <| RunK.nil <| LWP.seq <| LWP.seq <| rgN <| kmv rfl <| K.lenX rfl SliceT.h rfl .plain ?_; refine kne rfl rfl (r := false) (bne_eq_false_iff_eq.2 (by omega)) <| RunK.nil <| LWP.condF rfl ?_; refine LWP.skip ?_; refine LWP.seq <| LWP.seq <| rgN <| kmv rfl <| K.indexX rfl rfl SliceT.h (by omega) h00 .plain <| K.loadXagg rfl hX (by kernel_rfl) hsz hcs .plain <| K.alloc rfl .plain ?_; refine K.storeAll rfl rfl rfl rfl rfl rfl .plain ?_; refine RunK.nil <| LWP.seq <| rgN <| kfa rfl rfl ?_; refine kl1 rfl rfl rfl <| RunK.nil <| LWP.block <| LWP.seq <| LWP.seq <| rgN <| keq rfl rfl (r := false) (beq_eq_false_iff_ne.2 c2) <| kas rfl <| RunK.nil <| LWP.condF rfl ?_; refine rgN <| keq rfl rfl (r := true) (beq_iff_eq.2 c3) <| kas rfl <| RunK.nil <| LWP.condT rfl ?_; refine LWP.seq <| rgN <| kas rfl <| RunK.nil <| LWP.ret ?_)
    exact ⟨[_], ⟨rfl, trivial⟩, rfl⟩
  have e : (x.op == 2 || x.op == 3 || (x.op == 1 && decide (x.k = (false, 0)))) = (x.op == 1 && decide (x.k = (false, 0))) := by
    rw [beq_eq_false_iff_ne.2 c2, beq_eq_false_iff_ne.2 c3]; rfl
  rw [e]
  by_cases c1 : x.op = 1
  · rw [beq_iff_eq.2 c1, Bool.true_and]
    obtain ⟨op, a, b, kb, kN⟩ := x
    simp only at hk2 g0 g1 g2 g3 hcs c2 c3 c1 ⊢
    have q := eqI (b := kb) (b' := false) (h := kN / 18446744073709551616) (h' := 0) (l := kN % 18446744073709551616) (l' := 0) _ (eqZ hk2)
    (refine LWP.seq <| rgN <| kas rfl <| RunK.nil <| LWP.seq <| LWP.seq <| rgN <| kmv rfl <| K.lenX rfl SliceT.h rfl .plain ?_; refine kne rfl rfl (r := false) (bne_eq_false_iff_eq.2 (by omega)) <| RunK.nil <| LWP.condF rfl ?_; refine LWP.skip ?_; refine LWP.seq <| LWP.seq <| rgN <| kmv rfl <| K.indexX rfl rfl SliceT.h (by omega) h00 .plain <| K.loadXagg rfl hX (by kernel_rfl) hsz hcs .plain <| K.alloc rfl .plain ?_; refine K.storeAll rfl rfl rfl rfl rfl rfl .plain ?_; refine RunK.nil <| LWP.seq <| rgN <| kfa rfl rfl ?_; refine kl1 rfl rfl rfl <| RunK.nil <| LWP.block <| LWP.seq <| LWP.seq <| rgN <| keq rfl rfl (r := false) (beq_eq_false_iff_ne.2 c2) <| kas rfl <| RunK.nil <| LWP.condF rfl ?_; refine rgN <| keq rfl rfl (r := false) (beq_eq_false_iff_ne.2 c3) <| kas rfl <| RunK.nil <| LWP.condF rfl ?_; refine LWP.seq <| rgN <| keq rfl rfl (r := true) (beq_iff_eq.2 c1) <| kas rfl <| RunK.nil <| LWP.condT rfl ?_; refine LWP.seq <| rgN <| kfa rfl rfl ?_; refine K.loadPart rfl rfl rfl (by exact nl3 rfl rfl rfl rfl) .plain ?_; refine K.build rfl rfl (by exact rfl) (by exact nl3 rfl rfl rfl rfl) .plain ?_; refine K.aggEq rfl rfl rfl rfl (by kernel_rfl) q (.inl ⟨rfl, rfl⟩) .plain <| kas rfl <| RunK.nil <| LWP.ret ?_)
    exact ⟨[_], ⟨rfl, trivial⟩, rfl⟩
  · rw [beq_eq_false_iff_ne.2 c1, Bool.false_and]
    (refine LWP.seq <| rgN <| kas rfl <| RunK.nil <| LWP.seq <| LWP.seq <| rgN <| kmv rfl <| K.lenX rfl SliceT.h rfl .plain ?_; refine kne rfl rfl (r := false) (bne_eq_false_iff_eq.2 (by omega)) <| RunK.nil <| LWP.condF rfl ?_; refine LWP.skip ?_; refine LWP.seq <| LWP.seq <| rgN <| kmv rfl <| K.indexX rfl rfl SliceT.h (by omega) h00 .plain <| K.loadXagg rfl hX (by kernel_rfl) hsz hcs .plain <| K.alloc rfl .plain ?_; refine K.storeAll rfl rfl rfl rfl rfl rfl .plain ?_; refine RunK.nil <| LWP.seq <| rgN <| kfa rfl rfl ?_; refine kl1 rfl rfl rfl <| RunK.nil <| LWP.block <| LWP.seq <| LWP.seq <| rgN <| keq rfl rfl (r := false) (beq_eq_false_iff_ne.2 c2) <| kas rfl <| RunK.nil <| LWP.condF rfl ?_; refine rgN <| keq rfl rfl (r := false) (beq_eq_false_iff_ne.2 c3) <| kas rfl <| RunK.nil <| LWP.condF rfl ?_; refine LWP.seq <| rgN <| keq rfl rfl (r := false) (beq_eq_false_iff_ne.2 c1) <| kas rfl <| RunK.nil <| LWP.condF rfl ?_; refine LWP.skip ?_; refine LWP.seq <| rgN <| kas rfl <| RunK.nil <| LWP.ret ?_)
    exact ⟨[_], ⟨rfl, trivial⟩, rfl⟩
set_option maxHeartbeats 6400000 in
theorem yFormula (c : Cp) (f : Fl) (l : List Ins) (cad ad : Option Addr) (ccap cap : Nat) (hF : FieldsIn X cad c.fs) (hin : InsIn X ad l) (hbig : l.length < 1152921504606846976) (hfl : c.fs.length < 4611686018427387904) :
    PSpec Tryz.prog X 11 [Cx c cad ccap, Fx f, Lx ad l.length cap] (Ln .i64 (fmE c.fs f l)) := by
  have hC := gCheck X l ad cap hin hbig
  refine PSpec.intro Tryz.func11 rfl (by kernel_rfl) rfl rfl ?_
  intro C
  unfold fmE
  by_cases h0 : chkX l = 0
  case neg =>
    rw [if_neg h0]
    generalize chkX l = e at *
    (refine LWP.seq <| rgN <| K.box rfl rfl rfl .plain <| K.box rfl rfl rfl .plain <| kas rfl <| RunK.nil <| LWP.seq <| LWP.seq <| rgN <| kmv rfl <| kca rfl rfl hC <| kas rfl <| RunK.nil <| LWP.seq ?_; refine rgN <| kmv rfl <| kne rfl rfl (bne_iff_ne.2 h0) <| RunK.nil <| LWP.condT rfl ?_; refine LWP.seq <| rgN <| kmv rfl <| kas rfl <| RunK.nil <| LWP.ret ?_)
    exact ⟨[_], ⟨rfl, trivial⟩, rfl⟩
  rw [h0] at hC
  have hchk := chkX_ok h0
  have h64 := (chkX_zero h0).1
  have hU := gUses' X l ad cap hin (by omega)
  have hul := uses_le l
  rw [if_pos h0, refE_hd h0, ← seqE_uses (fs := c.fs) (f := f) l]
  (refine LWP.seq <| rgN <| K.box rfl rfl rfl .plain <| K.box rfl rfl rfl .plain <| kas rfl <| RunK.nil <| LWP.seq <| LWP.seq <| rgN <| kmv rfl <| kca rfl rfl hC <| kas rfl <| RunK.nil <| LWP.seq ?_; refine rgN <| kmv rfl <| kne rfl rfl (r := false) rfl <| RunK.nil <| LWP.condF rfl ?_; refine LWP.skip ?_; refine LWP.seq <| LWP.seq <| rgN <| kmv rfl <| K.callMp [(1000001, 601)] (.sv (.one (.slc 601 0 (usesX l).length 6))) [(601, some ⟨66, (inssV (usesX l)).map .val, true⟩)] (hU) rfl rfl (by exact trivial) rfl rfl rfl rfl rfl (by exact (.box rfl (Box.ren_vals _ _ _ _) .nil)) .plain <| K.lenSlc rfl SliceT.h rfl .plain ?_; refine kmv rfl <| RunK.nil <| LWP.block ?_)
  refine LWP.le (σ' := ⟨[(17, .sv (.one (.slc 601 0 (usesX l).length 6))), (2, Lx ad l.length cap), (3, Lp 3), (4, Lp 4), (18, Ln .i64 ((usesX l).length : Nat)), (19, Ln .i64 0)], [(601, some ⟨66, (inssV (usesX l)).map .val, true⟩), flB 4 f, cpB 3 c cad ccap], X⟩) (Le.of (by exact ⟨rfl, rfl, rfl, rfl, rfl, rfl, trivial⟩) (by exact ⟨rfl, rfl, rfl, trivial⟩) (by exact rfl) (by exact rfl) (by repeat' (first | refine all_cons_true ?_ ?_ | rfl | exact bytes_inUse | exact vals_inUse | exact mid_inUse rfl))) ?_
  refine LWP.freeze rfl rfl rfl fun ub uc ua uf hn _ _ _ hsp => ?_
  have hum : ∀ x ∈ usesX l, smallI x := fun x hx => hin.small x (uses_mem hx).1
  have hUI := ins_in (withBlock_at X ub (.cells ua 66 uf)) hum hsp
  have hXY := withBlock_old (o := .cells ua 66 uf) hn
  replace hF := hF.mono hXY
  have hH := yIsHandle _ l ad cap (hin.mono hXY) (by omega)
  have huse : ∀ x ∈ usesX l, (x.op = 2 ∨ x.op = 3) ∧ 0 ≤ x.a := fun x hx => ⟨(uses_mem hx).2, (okI_facts (hchk x (uses_mem hx).1)).2.2.1.1⟩
  clear hin hC hU hsp hn hchk hum
  generalize withBlock X ub (.cells ua 66 uf) = Y at *
  generalize (some ⟨ub, 0, none⟩ : Option Addr) = uad at *
  generalize usesX l = u at *
  have hR := yIsRef Y f
  refine LWP.loop (fun m σ => ∃ i : Nat, i ≤ u.length ∧ m = u.length - i ∧ (∀ j, 0 ≤ j → j < i → atE (findE c.fs f) u j = 0) ∧ σ = ⟨[(2, Lx ad l.length cap), (3, Lp 3), (4, Lp 4), (17, Lx uad u.length uc), (18, Ln .i64 (u.length : Nat)), (19, Ln .i64 (i : Nat))], [flB 4 f, cpB 3 c cad ccap], Y⟩) u.length
    ⟨_, Le.of (by exact ⟨rfl, rfl, rfl, rfl, rfl, rfl, trivial⟩) (by exact ⟨rfl, rfl, trivial⟩) (by exact rfl) (by exact rfl) (by repeat' (first | refine all_cons_true ?_ ?_ | rfl | exact bytes_inUse | exact vals_inUse | exact mid_inUse rfl)), 0, by omega, by omega, fun j _ hj => absurd hj (by omega), rfl⟩ ?_
  rintro m σ ⟨i, hi, rfl, hpre, rfl⟩
  by_cases hlt : i < u.length
  case neg =>
    have e : i = u.length := by omega
    subst e
    have hs : seqE (findE c.fs f) u = 0 := firstE_none fun j h1 h2 => hpre j h1 (by omega)
    rw [if_pos hs]
    by_cases hk : f.kind = 10
    · rw [decide_eq_true hk] at hR
      cases hd : hdB l with
      | true =>
        rw [hd] at hH
        rw [if_neg (fun h => by cases h.2)]
        (refine LWP.seq <| rgN <| klt rfl rfl (decide_eq_false (by omega)) <| RunK.nil <| LWP.seq <| LWP.condF rfl ?_; refine LWP.exit <| LWP.seq <| LWP.seq <| rgN <| K.loadAll rfl rfl rfl .plain ?_; refine kca rfl rfl hR <| kmv rfl <| gmv rfl rfl rfl <| gca rfl rfl hH rfl rfl <| K.not rfl rfl (.taken rfl rfl) ?_; refine kpt rfl rfl <| RunK.nil <| LWP.condF rfl ?_; refine LWP.skip ?_; refine LWP.seq <| rgN <| kas rfl <| RunK.nil <| LWP.ret ?_)
        exact ⟨[_], ⟨rfl, trivial⟩, rfl⟩
      | false =>
        rw [hd] at hH
        rw [if_pos ⟨hk, rfl⟩]
        (refine LWP.seq <| rgN <| klt rfl rfl (decide_eq_false (by omega)) <| RunK.nil <| LWP.seq <| LWP.condF rfl ?_; refine LWP.exit <| LWP.seq <| LWP.seq <| rgN <| K.loadAll rfl rfl rfl .plain ?_; refine kca rfl rfl hR <| kmv rfl <| gmv rfl rfl rfl <| gca rfl rfl hH rfl rfl <| K.not rfl rfl (.taken rfl rfl) ?_; refine kpt rfl rfl <| RunK.nil <| LWP.condT rfl ?_; refine LWP.seq <| rgN <| kas rfl <| RunK.nil <| LWP.ret ?_)
        exact ⟨[_], ⟨rfl, trivial⟩, rfl⟩
    · rw [decide_eq_false hk] at hR
      rw [if_neg (fun h => hk h.1)]
      (refine LWP.seq <| rgN <| klt rfl rfl (decide_eq_false (by omega)) <| RunK.nil <| LWP.seq <| LWP.condF rfl ?_; refine LWP.exit <| LWP.seq <| LWP.seq <| rgN <| K.loadAll rfl rfl rfl .plain ?_; refine kca rfl rfl hR <| kmv rfl <| RunK.passed rfl rfl rfl <| RunK.passed rfl rfl rfl <| RunK.passed rfl rfl rfl <| kpf rfl rfl <| RunK.nil <| LWP.condF rfl ?_; refine LWP.skip ?_; refine LWP.seq <| rgN <| kas rfl <| RunK.nil <| LWP.ret ?_)
      exact ⟨[_], ⟨rfl, trivial⟩, rfl⟩
  obtain ⟨x, hx⟩ : ∃ x, u[i]? = some x := ⟨_, List.getElem?_eq_getElem hlt⟩
  obtain ⟨blk, off, arr, el, fr, rfl, hX, hsz, hcs, _⟩ := hUI.at hx
  have hio : off + Int.toNat (i : Int) * 6 = off + i * 6 := by simp
  obtain ⟨h23, ha0⟩ := huse x (List.mem_of_getElem? hx)
  have hadd : IntKind.i64.wrap ((i : Int) + 1) = ((i + 1 : Nat) : Int) := by rw [wrap_i64 (by omega)]; omega
  have hq := yUse Y c f x cad ccap hF hfl h23 ha0
  by_cases he : findE c.fs f x = 0
  · rw [he] at hq
    have next : ∀ j, 0 ≤ j → j < i + 1 → atE (findE c.fs f) u j = 0 := fun j h0 hj => by
      by_cases e : j = i
      · rw [e, atE_at hx]; exact he
      · exact hpre j h0 (by omega)
    (refine LWP.seq <| rgN <| klt rfl rfl (decide_eq_true (by omega)) <| RunK.nil <| LWP.seq <| LWP.condT rfl ?_; refine LWP.skip ?_; refine LWP.seq <| LWP.block <| LWP.seq <| rgN <| K.indexX rfl rfl SliceT.h (by omega) hio .plain <| K.loadXagg rfl hX (by kernel_rfl) hsz hcs .plain <| K.alloc rfl .plain ?_; refine K.storeAll rfl rfl rfl rfl rfl rfl .plain ?_; refine RunK.nil <| LWP.seq <| rgN <| K.loadAll rfl rfl rfl .plain ?_; refine K.loadAll rfl rfl rfl .plain ?_; refine K.loadAll rfl rfl rfl .plain ?_; refine kca rfl rfl hq <| kas rfl <| RunK.nil <| LWP.seq <| rgN <| kmv rfl <| kne rfl rfl (r := false) rfl <| RunK.nil <| LWP.condF rfl ?_; refine LWP.skip ?_; refine rgN <| kad rfl rfl hadd <| kmv rfl <| RunK.nil ?_)
    exact ⟨_, _, by omega, Le.of (by exact ⟨rfl, rfl, rfl, rfl, rfl, rfl, trivial⟩) (by exact ⟨rfl, rfl, trivial⟩) (by exact rfl) (by exact rfl) (by repeat' (first | refine all_cons_true ?_ ?_ | rfl | exact bytes_inUse | exact vals_inUse | exact mid_inUse rfl)), i + 1, by omega, rfl, next, rfl⟩
  · have hs : seqE (findE c.fs f) u = findE c.fs f x := firstE_some hpre (Nat.zero_le _) (by omega) (by rw [atE_at hx]) he
    rw [hs, if_neg he]
    generalize findE c.fs f x = e at *
    (refine LWP.seq <| rgN <| klt rfl rfl (decide_eq_true (by omega)) <| RunK.nil <| LWP.seq <| LWP.condT rfl ?_; refine LWP.skip ?_; refine LWP.seq <| LWP.block <| LWP.seq <| rgN <| K.indexX rfl rfl SliceT.h (by omega) hio .plain <| K.loadXagg rfl hX (by kernel_rfl) hsz hcs .plain <| K.alloc rfl .plain ?_; refine K.storeAll rfl rfl rfl rfl rfl rfl .plain ?_; refine RunK.nil <| LWP.seq <| rgN <| K.loadAll rfl rfl rfl .plain ?_; refine K.loadAll rfl rfl rfl .plain ?_; refine K.loadAll rfl rfl rfl .plain ?_; refine kca rfl rfl hq <| kas rfl <| RunK.nil <| LWP.seq <| rgN <| kmv rfl <| kne rfl rfl (bne_iff_ne.2 he) <| RunK.nil <| LWP.condT rfl ?_; refine LWP.seq <| rgN <| kmv rfl <| kas rfl <| RunK.nil <| LWP.ret ?_)
    exact ⟨[_], ⟨rfl, trivial⟩, rfl⟩
end Go.Proofs.YtnfbccfghgmfiaaGreat
end
section
namespace Go.Proofs.YtnfbccfghgmfiaaGreat
open Go Go.Lg Go.Lg.Fml Go.Lg.Fld Go.Lg.Arith
set_option maxRecDepth 100000
variable (X : Nat → Option Obj)
set_option maxHeartbeats 6400000 in
theorem yRule (a b : Cp) (r : Rl) (aad bad ead : Option Addr) (acap bcap ecap : Nat) (hA : FieldsIn X aad a.fs) (hB : FieldsIn X bad b.fs) (hE : CodesIn X ead r.ex) (hal : a.fs.length < 4611686018427387904) (hbl : b.fs.length < 4611686018427387904) (hcl : ∀ c ∈ r.ex, c.length < 1152921504606846976) :
    PSpec Tryz.prog X 9 [Cx a aad acap, Cx b bad bcap, .sv (.agg [.val (.int .i64 r.nw), .val (.int .i64 r.old), .val (.slice ead r.ex.length ecap)])] (Ln .i64 (ruE a.fs b.fs r)) := by
  refine PSpec.intro Tryz.func9 rfl (by kernel_rfl) rfl rfl ?_
  intro C
  by_cases h0 : r.old = 0
  · rw [show ruE a.fs b.fs r = 0 from if_pos h0]
    (refine LWP.seq <| rgN <| K.box rfl rfl rfl .plain <| K.box rfl rfl rfl .plain <| K.box rfl rfl rfl .plain <| kas rfl <| RunK.nil <| LWP.seq <| LWP.block <| LWP.seq <| rgN <| kfa rfl rfl ?_; refine kl1 rfl rfl rfl <| keq rfl rfl (r := true) (beq_iff_eq.2 h0) <| kas rfl <| RunK.nil <| LWP.condT rfl ?_; refine LWP.seq <| rgN <| kas rfl <| RunK.nil <| LWP.ret ?_)
    exact ⟨[_], ⟨rfl, trivial⟩, rfl⟩
  by_cases hl : r.ex.length = b.fs.length
  case neg =>
    rw [show ruE a.fs b.fs r = 4 by unfold ruE; rw [if_neg h0, if_neg hl]]
    (refine LWP.seq <| rgN <| K.box rfl rfl rfl .plain <| K.box rfl rfl rfl .plain <| K.box rfl rfl rfl .plain <| kas rfl <| RunK.nil <| LWP.seq <| LWP.block <| LWP.seq <| rgN <| kfa rfl rfl ?_; refine kl1 rfl rfl rfl <| keq rfl rfl (r := false) (beq_eq_false_iff_ne.2 h0) <| kas rfl <| RunK.nil <| LWP.condF rfl ?_; refine LWP.seq <| rgN <| kfa rfl rfl ?_; refine kl1 rfl rfl rfl <| K.lenX rfl SliceT.h rfl .plain ?_; refine kfa rfl rfl ?_; refine kl1 rfl rfl rfl <| K.lenX rfl SliceT.h rfl .plain ?_; refine kne rfl rfl (r := true) (bne_iff_ne.2 (by omega)) <| kas rfl <| RunK.nil <| LWP.condT rfl ?_; refine LWP.seq <| rgN <| kas rfl <| RunK.nil <| LWP.ret ?_)
    exact ⟨[_], ⟨rfl, trivial⟩, rfl⟩
  rw [ruE_at h0 hl]
  have hzl : (b.fs.zip r.ex).length = b.fs.length := by rw [List.length_zip]; omega
  (refine LWP.seq <| rgN <| K.box rfl rfl rfl .plain <| K.box rfl rfl rfl .plain <| K.box rfl rfl rfl .plain <| kas rfl <| RunK.nil <| LWP.seq <| LWP.block <| LWP.seq <| rgN <| kfa rfl rfl ?_; refine kl1 rfl rfl rfl <| keq rfl rfl (r := false) (beq_eq_false_iff_ne.2 h0) <| kas rfl <| RunK.nil <| LWP.condF rfl ?_; refine LWP.seq <| rgN <| kfa rfl rfl ?_; refine kl1 rfl rfl rfl <| K.lenX rfl SliceT.h rfl .plain ?_; refine kfa rfl rfl ?_; refine kl1 rfl rfl rfl <| K.lenX rfl SliceT.h rfl .plain ?_; refine kne rfl rfl (r := false) (bne_eq_false_iff_eq.2 (by omega)) <| kas rfl <| RunK.nil <| LWP.condF rfl ?_; refine LWP.skip ?_; refine LWP.seq <| LWP.seq <| rgN <| kfa rfl rfl ?_; refine kl1 rfl rfl rfl <| K.lenX rfl SliceT.h rfl .plain ?_; refine kmv rfl <| RunK.nil <| LWP.block ?_)
  refine LWP.loop (fun m σ => ∃ i : Nat, i ≤ r.ex.length ∧ m = r.ex.length - i ∧ (∀ j, 0 ≤ j → j < i → atE (fun q : Fl × List Ins => fmE a.fs q.1 q.2) (b.fs.zip r.ex) j = 0) ∧ σ = ⟨[(3, Lp 3), (4, Lp 4), (23, Lx ead r.ex.length ecap), (24, Ln .i64 (r.ex.length : Nat)), (25, Ln .i64 (i : Nat))], [cpB 4 b bad bcap, cpB 3 a aad acap], X⟩) r.ex.length
    ⟨_, Le.of (by exact ⟨rfl, rfl, rfl, rfl, rfl, trivial⟩) (by exact ⟨rfl, rfl, trivial⟩) (by exact rfl) (by exact rfl) (by repeat' (first | refine all_cons_true ?_ ?_ | rfl | exact bytes_inUse | exact vals_inUse | exact mid_inUse rfl)), 0, by omega, by omega, fun j _ hj => absurd hj (by omega), rfl⟩ ?_
  rintro m σ ⟨i, hi, rfl, hpre, rfl⟩
  by_cases hlt : i < r.ex.length
  case neg =>
    rw [show seqE (fun q : Fl × List Ins => fmE a.fs q.1 q.2) (b.fs.zip r.ex) = 0 from firstE_none fun j h1 h2 => hpre j h1 (by omega)]
    (refine LWP.seq <| rgN <| klt rfl rfl (decide_eq_false (by omega)) <| RunK.nil <| LWP.seq <| LWP.condF rfl ?_; refine LWP.exit <| LWP.seq <| rgN <| kas rfl <| RunK.nil <| LWP.ret ?_)
    exact ⟨[_], ⟨rfl, trivial⟩, rfl⟩
  obtain ⟨f, hf⟩ : ∃ f, b.fs[i]? = some f := ⟨_, List.getElem?_eq_getElem (by omega)⟩
  obtain ⟨c, hc⟩ : ∃ c, r.ex[i]? = some c := ⟨_, List.getElem?_eq_getElem hlt⟩
  obtain ⟨fb, fo, farr, fel, ffr, rfl, hFX, hFz, hFc, _⟩ := hB.cells hf
  obtain ⟨eb, eo, earr, eel, efr, vad, vcap, rfl, hEX, hec, hI⟩ := hE.get hc
  have hio3 : fo + Int.toNat (i : Int) * 3 = fo + i * 3 := by simp
  have hio1 : eo + Int.toNat (i : Int) * 1 = eo + i * 1 := by simp
  have hadd : IntKind.i64.wrap ((i : Int) + 1) = ((i + 1 : Nat) : Int) := by rw [wrap_i64 (by omega)]; omega
  have hq := yFormula X a f c aad vad acap vcap hA hI (hcl c (List.mem_of_getElem? hc)) hal
  have hat : atE (fun q : Fl × List Ins => fmE a.fs q.1 q.2) (b.fs.zip r.ex) i = fmE a.fs f c := atE_at (zip_two hf hc)
  by_cases he : fmE a.fs f c = 0
  · rw [he] at hq
    (refine LWP.seq <| rgN <| klt rfl rfl (decide_eq_true (by omega)) <| RunK.nil <| LWP.seq <| LWP.condT rfl ?_; refine LWP.skip ?_; refine LWP.seq <| LWP.block <| LWP.seq <| rgN <| kmv rfl <| K.indexX rfl rfl SliceT.h (by omega) hio1 .plain <| K.loadX rfl hEX rfl hec .plain <| kas rfl <| kas rfl <| RunK.nil <| LWP.seq <| rgD mixed <| K.loadAll rfl rfl rfl .plain ?_; refine kfa rfl rfl ?_; refine kl1 rfl rfl rfl <| kmv rfl <| K.indexX rfl rfl SliceT.h (by omega) hio3 .plain <| K.loadXagg rfl hFX (by kernel_rfl) hFz hFc .plain <| kmv rfl <| kca rfl rfl hq <| kas rfl <| RunK.nil <| rgA ?_; refine LWP.seq <| rgN <| kmv rfl <| kne rfl rfl (r := false) rfl <| RunK.nil <| LWP.condF rfl ?_; refine LWP.skip ?_; refine rgN <| kad rfl rfl hadd <| kmv rfl <| RunK.nil ?_)
    exact ⟨_, _, by omega, Le.of (by exact ⟨rfl, rfl, rfl, rfl, rfl, trivial⟩) (by exact ⟨rfl, rfl, trivial⟩) (by exact rfl) (by exact rfl) (by repeat' (first | refine all_cons_true ?_ ?_ | rfl | exact bytes_inUse | exact vals_inUse | exact mid_inUse rfl)), i + 1, by omega, rfl, (fun j h0 hj => by
      by_cases e : j = i
      · rw [e, hat]; exact he
      · exact hpre j h0 (by omega)), rfl⟩
  · rw [show seqE (fun q : Fl × List Ins => fmE a.fs q.1 q.2) (b.fs.zip r.ex) = fmE a.fs f c from firstE_some hpre (Nat.zero_le _) (by omega) hat he]
    generalize fmE a.fs f c = e at *
    (refine LWP.seq <| rgN <| klt rfl rfl (decide_eq_true (by omega)) <| RunK.nil <| LWP.seq <| LWP.condT rfl ?_; refine LWP.skip ?_; refine LWP.seq <| LWP.block <| LWP.seq <| rgN <| kmv rfl <| K.indexX rfl rfl SliceT.h (by omega) hio1 .plain <| K.loadX rfl hEX rfl hec .plain <| kas rfl <| kas rfl <| RunK.nil <| LWP.seq <| rgD mixed <| K.loadAll rfl rfl rfl .plain ?_; refine kfa rfl rfl ?_; refine kl1 rfl rfl rfl <| kmv rfl <| K.indexX rfl rfl SliceT.h (by omega) hio3 .plain <| K.loadXagg rfl hFX (by kernel_rfl) hFz hFc .plain <| kmv rfl <| kca rfl rfl hq <| kas rfl <| RunK.nil <| rgA ?_; refine LWP.seq <| rgN <| kmv rfl <| kne rfl rfl (r := true) (bne_iff_ne.2 he) <| RunK.nil <| LWP.condT rfl ?_; refine LWP.seq <| rgN <| kmv rfl <| kas rfl <| RunK.nil <| LWP.ret ?_)
    exact ⟨[_], ⟨rfl, trivial⟩, rfl⟩
end Go.Proofs.YtnfbccfghgmfiaaGreat
end
section
namespace Go.Lg
open Go
section
variable {P : Program} {n : Nat} {C : Ctx} {c y : Code} {Q : Exit → St → Prop} {Q2 : Exit → St → Prop} {σ : St}
theorem LWP.meetBQ {id : Nat} (Mid : St → Prop) (h : LWP P n C c (blockQ id (thenQ (Leads n C Mid) Q2)) σ) (hm : ∀ σ, Mid σ → LWP P n C y Q σ) : LWP P n C c (blockQ id (thenQ (LWP P n C y Q) Q2)) σ := by
  refine h.mono ?_
  intro e σ' hq
  cases e with
  | exit id' =>
    simp only [blockQ] at hq ⊢
    cases hb : Nat.beq id' id with
    | true =>
      rw [hb] at hq
      exact LWP.ofLeads hq hm
    | false => rw [hb] at hq; exact hq
  | normal => exact LWP.ofLeads hq hm
  | goto l => exact hq
  | ret => exact hq
  | panic c => exact hq
  | outgrown => exact hq
end
end Go.Lg
end
section
namespace Go.Lg
open Go Go.RowKit
section
variable {P : Program} {n : Nat} {ops os : List Oper} {acc : List Eff} {K : List Eff → St → Prop} {s : List (Nat × LV)} {bx : List (Nat × Option Box)} {X : Nat → Option Obj} {σ : St}
theorem range_flat {z : Array Value} {sz : Nat} (hs : z.size = sz) : ∀ m : Nat, ((List.range (m * sz)).map fun i => z[i % z.size]!) = (List.replicate m z.toList).flatten := by
  intro m
  induction m with
  | zero => simp
  | succ m ih =>
    rw [Nat.succ_mul, List.range_add, List.map_append, ih, List.replicate_succ', List.flatten_append]
    congr 1
    rw [List.map_map]
    simp only [List.flatten_cons, List.flatten_nil, List.append_nil]
    apply List.ext_getElem
    · simp [hs]
    · intro i h3 h4
      have hi : i < sz := by simpa [hs] using h4
      have h5 : i % sz = i := Nat.mod_eq_of_lt hi
      have h6 : i < z.size := by omega
      rw [List.getElem_map, Function.comp_apply, List.getElem_range, hs, Nat.mul_add_mod_self_right, h5, Array.getElem_toList]
      exact getElem!_pos z i h6
structure MadeOf (P : Program) (t : TypeId) (e : TypeId) (sz bytes : Nat) (z : List Value) : Prop where
  under : P.underlying t = some (.slice e)
  info : (P.info? e).map (fun i => (i.size, i.zero.map (fun z => z.cells), i.bytes)) = some (sz, some z.toArray, bytes)
  len : z.length = sz
theorem LOK.makeBig {d k m : Nat} {t e : TypeId} {x y : Operand} {ty : TypeId} {pos : String} {after_ : Array Edge} {g : Option (Nat × Bool)} {kl kc : IntKind} {z : List Value} {sz : Nat} {zc : List CV} {bytes : Nat}
    (hx : σ.ev x = some (.sv (.one (.val (.int kl (m : Nat)))))) (hy : σ.ev y = some (.sv (.one (.val (.int kc (m : Nat)))))) (hM : MadeOf P t e sz bytes z) (hfit : bytes * m ≤ 281474976710656 ∧ m < 9223372036854775808)
    (hzc : (List.replicate m z).flatten.map .val = zc) (hk : σ.fresh k = true) : LOK P n ops ⟨some d, .makeSlice t x y, ty, pos, after_, g⟩ σ ⟨[(d, .sv (.one (.slc k 0 m sz)))], [], [(k, some ⟨e, zc, false⟩)]⟩ :=
  LOK.make fun σ' ha C ι a w hr => by
    subst hzc
    have hk' : σ'.stat k = none := (ha.stat k (.inr (by simp))).trans (St.fresh_none hk)
    have hlt := St.fresh_lt hk
    have h1 : a.eval x = .int kl (m : Nat) := hr.ev ((ha.ev (x := x) (by simp [Op.operands])).trans hx)
    have h2 : a.eval y = .int kc (m : Nat) := hr.ev ((ha.ev (x := y) (by simp [Op.operands])).trans hy)
    obtain ⟨hu, hi, hl⟩ := hM
    cases hie : P.info? e with
    | none => rw [hie] at hi; cases hi
    | some ie =>
      rw [hie] at hi
      simp only [Option.map_some, Option.some.injEq, Prod.mk.injEq] at hi
      obtain ⟨e1, e2, e3⟩ := hi
      cases hz : ie.zero with
      | none => rw [hz] at e2; cases e2
      | some zv =>
        rw [hz] at e2
        simp only [Option.map_some, Option.some.injEq] at e2
        have hbb : (ie.bytes : Int) * ((m : Nat) : Int) ≤ 281474976710656 := by
          rw [e3, ← Int.natCast_mul]
          have := hfit.1
          omega
        have hrun := run_make (P := P) w t e ie zv hu hie hz kl kc (m : Nat) (m : Nat) (by omega) (Int.le_refl _) hbb (by have := hfit.2; omega)
        simp only [Int.toNat_natCast] at hrun
        have hmc : madeCells zv.cells (m * ie.size) = (List.replicate m z).flatten.toArray := by
          unfold madeCells
          rw [range_map, e2, e1, range_flat (by simpa using hl) m]
        rw [hmc] at hrun
        refine ⟨.slice (some ⟨w.heap.size, 0, none⟩) m m, w.alloc (.cells (List.replicate m z).flatten.toArray e), put1 ι k (w.heap.size, (List.replicate m z).flatten.toArray.size), ?_, ?_, ?_⟩
        · simp only [execOp, h1, h2, Sem.run_bind, hrun, Result.andThen_ok, Sem.run_pure]
        · exact hr.new hlt hk' (b := ⟨e, (List.replicate m z).flatten.map .val, false⟩) (by simp only [Box.rel]; exact CVs.rel_map_val _)
        · have hl : (List.replicate m z).flatten.length = m * sz := by
            rw [List.length_flatten, List.map_replicate, List.sum_replicate_nat, hl]
          simp [LV.rel, SV.rel, CV.rel, stat_cons, put1, hl]
theorem K.makeBig {d m : Nat} {t e : TypeId} {x y : Operand} {ty : TypeId} {pos : String} {after_ : Array Edge} {g : Option (Nat × Bool)} {kl kc : IntKind} {z : List Value} {sz : Nat} {zc : List CV} {bytes : Nat}
    (hx : (⟨s, bx, X⟩ : St).ev x = some (.sv (.one (.val (.int kl (m : Nat)))))) (hy : (⟨s, bx, X⟩ : St).ev y = some (.sv (.one (.val (.int kc (m : Nat)))))) (hM : MadeOf P t e sz bytes z) (hfit : bytes * m ≤ 281474976710656 ∧ m < 9223372036854775808)
    (hzc : (List.replicate m z).flatten.map .val = zc) (hk : (⟨s, bx, X⟩ : St).fresh d = true) (hw : Want ops s g) (kont : RunK P n ops os ⟨(d, .sv (.one (.slc d 0 m sz))) :: s, (d, some ⟨e, zc, false⟩) :: bx, X⟩ (⟨[(d, .sv (.one (.slc d 0 m sz)))], [], [(d, some ⟨e, zc, false⟩)]⟩ :: acc) K) :
    RunK P n ops (⟨some d, .makeSlice t x y, ty, pos, after_, g⟩ :: os) ⟨s, bx, X⟩ acc K := RunK.g2 (LOK.makeBig hx hy hM hfit hzc hk) hw kont
end
end Go.Lg
end
section
namespace Go.Proofs.YtnfbccfghgmfiaaGreat
open Go Go.Lg Go.Lg.Fml Go.Lg.Fld Go.Lg.Arith
set_option maxRecDepth 100000
theorem plainF_no {fs : List Fl} {f : Fl} (h : fs.findIdx? (fun g => g.nm == f.nm) = none) : plainF fs f = num0 := by unfold plainF; rw [h]
theorem plainF_at {fs : List Fl} {f g : Fl} {i : Nat} (h : fs.findIdx? (fun g => g.nm == f.nm) = some i) (hg : fs[i]? = some g) : plainF fs f = if f.count ≤ g.count ∧ ((g.kind = 10) = (f.kind = 10)) then ⟨3, i, 0, (false, 0)⟩ else num0 := by
  unfold plainF; rw [h]; simp only; rw [hg]
def zrl (k : Nat) : List Value := (List.replicate k [Value.int .i64 0, Value.int .i64 0, Value.slice none 0 0]).flatten
theorem zrl_succ (k : Nat) : zrl (k + 1) = [Value.int .i64 0, Value.int .i64 0, Value.slice none 0 0] ++ zrl k := by unfold zrl; rw [List.replicate_succ, List.flatten_cons]
theorem zrl_len (k : Nat) : (zrl k).length = k * 3 := by
  induction k with
  | zero => rfl
  | succ k ih => rw [zrl_succ, List.length_append, ih]; simp; omega
theorem nilV_flat (k : Nat) : (List.replicate k [Value.slice none 0 0]).flatten = nilV k := by
  induction k with
  | zero => rfl
  | succ k ih => rw [List.replicate_succ, List.flatten_cons, ih, nilV_succ]; rfl
variable (X : Nat → Option Obj)
theorem yPlainIns (o : Cp) (f : Fl) (oad : Option Addr) (ocap : Nat) (hF : FieldsIn X oad o.fs) (hfl : o.fs.length < 4611686018427387904) :
    PSpec Tryz.prog X 41 [Cx o oad ocap, Fx f] (Ax (plainF o.fs f)) := by
  refine PSpec.intro Tryz.func41 rfl (by kernel_rfl) rfl rfl ?_
  intro C
  cases hq : o.fs.findIdx? (fun g => g.nm == f.nm) with
  | none =>
    rw [plainF_no hq]
    have hN := pField_no X o oad ocap f.nm hF hfl (fun j y hy => List.findIdx?_eq_none_iff.1 hq y (List.mem_of_getElem? hy))
    (refine LWP.seq <| rgN <| K.box rfl rfl rfl .plain <| K.box rfl rfl rfl .plain <| K.alloc rfl .plain ?_; refine RunK.nil <| LWP.seq <| rgN <| K.loadAll rfl rfl rfl .plain ?_; refine kfa rfl rfl ?_; refine kl1 rfl rfl rfl <| kca rfl rfl hN <| kmv rfl <| kex rfl rfl <| kex rfl rfl <| kas rfl <| kas rfl <| RunK.nil <| LWP.seq <| rgN <| kmv rfl <| K.build rfl rfl (by exact rfl) (by exact nl6 rfl rfl rfl rfl rfl rfl rfl) .plain ?_; refine K.alloc rfl .plain ?_; refine K.storeAll rfl rfl rfl rfl rfl rfl .plain ?_; refine RunK.nil <| LWP.seq <| LWP.seq <| rgN <| kmv rfl <| K.not rfl rfl .plain <| kmv rfl <| RunK.passed rfl rfl rfl <| RunK.passed rfl rfl rfl <| RunK.passed rfl rfl rfl <| RunK.passed rfl rfl rfl <| RunK.passed rfl rfl rfl <| kpt rfl rfl <| RunK.nil ?_; refine LWP.condT rfl ?_; refine LWP.seq <| rgN <| K.build rfl rfl (by exact rfl) (by exact nl6 rfl rfl rfl rfl rfl rfl rfl) .plain ?_; refine K.storeAll rfl rfl rfl rfl rfl rfl .plain ?_; refine RunK.nil <| LWP.ret ?_)
    exact ⟨[_], ⟨⟨_, _, rfl, rfl, rfl, .inl ⟨AggT.h, rfl⟩⟩, trivial⟩, rfl⟩
  | some i =>
  obtain ⟨hi, h1, h2⟩ := List.findIdx?_eq_some_iff_getElem.1 hq
  have hg := List.getElem?_eq_getElem hi
  generalize o.fs[i] = g at *
  have hN := pField X o oad ocap f.nm hF hfl (fun j y hj hy => by
    have := h2 j hj
    rw [(List.getElem?_eq_some_iff.1 hy).2] at this
    simpa using this) hg (by simpa using h1)
  have hU := yUse X o f ⟨3, i, 0, (false, 0)⟩ oad ocap hF hfl (.inr rfl) (by show (0 : Int) ≤ (i : Int); omega)
  have hE := findE_at (fs := o.fs) (f := f) (x := ⟨3, i, 0, (false, 0)⟩) (.inr rfl) (g := g) (by simpa using hg)
  rw [plainF_at hq hg]
  by_cases hc : f.count ≤ g.count ∧ ((g.kind = 10) = (f.kind = 10))
  · rw [if_pos hc]
    rw [if_neg (by rintro (⟨h, _⟩ | ⟨_, h⟩); exact absurd (show (3 : Int) = 2 from h) (by decide); exact absurd h (by omega)), if_pos hc.2] at hE
    rw [hE] at hU
    (refine LWP.seq <| rgN <| K.box rfl rfl rfl .plain <| K.box rfl rfl rfl .plain <| K.alloc rfl .plain ?_; refine RunK.nil <| LWP.seq <| rgN <| K.loadAll rfl rfl rfl .plain ?_; refine kfa rfl rfl ?_; refine kl1 rfl rfl rfl <| kca rfl rfl hN <| kmv rfl <| kex rfl rfl <| kex rfl rfl <| kas rfl <| kas rfl <| RunK.nil <| LWP.seq <| rgN <| kmv rfl <| K.build rfl rfl (by exact rfl) (by exact nl6 rfl rfl rfl rfl rfl rfl rfl) .plain ?_; refine K.alloc rfl .plain ?_; refine K.storeAll rfl rfl rfl rfl rfl rfl .plain ?_; refine RunK.nil <| LWP.seq <| LWP.seq <| rgN <| kmv rfl <| K.not rfl rfl .plain <| kmv rfl <| K.loadAll rfl rfl rfl (.taken rfl rfl) ?_; refine K.loadAll rfl rfl rfl (.taken rfl rfl) ?_; refine K.loadAll rfl rfl rfl (.taken rfl rfl) ?_; refine gca rfl rfl hU rfl rfl <| K.neq rfl rfl (r := false) rfl (.taken rfl rfl) ?_; refine kpf rfl rfl <| RunK.nil <| LWP.condF rfl ?_; refine LWP.skip ?_; refine LWP.seq <| rgN <| K.loadAll rfl rfl rfl .plain ?_; refine K.storeAll rfl rfl rfl rfl rfl rfl .plain ?_; refine RunK.nil <| LWP.ret ?_)
    exact ⟨[_], ⟨⟨_, _, rfl, rfl, rfl, .inl ⟨AggT.h, rfl⟩⟩, trivial⟩, rfl⟩
  · rw [if_neg hc]
    have he : findE o.fs f ⟨3, i, 0, (false, 0)⟩ ≠ 0 := by
      rw [hE]
      by_cases hb : f.count ≤ g.count
      · rw [if_neg (by rintro (⟨h, _⟩ | ⟨_, h⟩); exact absurd (show (3 : Int) = 2 from h) (by decide); exact absurd h (by omega)), if_neg (fun h => hc ⟨hb, h⟩)]
        decide
      · rw [if_pos (.inr ⟨rfl, by omega⟩)]
        decide
    generalize findE o.fs f ⟨3, i, 0, (false, 0)⟩ = e at *
    (refine LWP.seq <| rgN <| K.box rfl rfl rfl .plain <| K.box rfl rfl rfl .plain <| K.alloc rfl .plain ?_; refine RunK.nil <| LWP.seq <| rgN <| K.loadAll rfl rfl rfl .plain ?_; refine kfa rfl rfl ?_; refine kl1 rfl rfl rfl <| kca rfl rfl hN <| kmv rfl <| kex rfl rfl <| kex rfl rfl <| kas rfl <| kas rfl <| RunK.nil <| LWP.seq <| rgN <| kmv rfl <| K.build rfl rfl (by exact rfl) (by exact nl6 rfl rfl rfl rfl rfl rfl rfl) .plain ?_; refine K.alloc rfl .plain ?_; refine K.storeAll rfl rfl rfl rfl rfl rfl .plain ?_; refine RunK.nil <| LWP.seq <| LWP.seq <| rgN <| kmv rfl <| K.not rfl rfl .plain <| kmv rfl <| K.loadAll rfl rfl rfl (.taken rfl rfl) ?_; refine K.loadAll rfl rfl rfl (.taken rfl rfl) ?_; refine K.loadAll rfl rfl rfl (.taken rfl rfl) ?_; refine gca rfl rfl hU rfl rfl <| K.neq rfl rfl (r := true) (bne_iff_ne.2 he) (.taken rfl rfl) ?_; refine kpf rfl rfl <| RunK.nil <| LWP.condT rfl ?_; refine LWP.seq <| rgN <| K.build rfl rfl (by exact rfl) (by exact nl6 rfl rfl rfl rfl rfl rfl rfl) .plain ?_; refine K.storeAll rfl rfl rfl rfl rfl rfl .plain ?_; refine RunK.nil <| LWP.ret ?_)
    exact ⟨[_], ⟨⟨_, _, rfl, rfl, rfl, .inl ⟨AggT.h, rfl⟩⟩, trivial⟩, rfl⟩
theorem plainF_small {fs : List Fl} {f : Fl} (hl : fs.length < 4611686018427387904) : smallI (plainF fs f) := by
  rcases plainF_cases fs f with h | ⟨i, g, hi, _, _, h⟩
  · rw [h]; exact ⟨by decide, by decide, by decide, by show 0 ≤ (0 : Int) ∧ _; decide⟩
  · rw [h]
    have := (List.getElem?_eq_some_iff.1 hi).1
    refine ⟨(by decide : -9223372036854775808 ≤ (3 : Int) ∧ (3 : Int) < 9223372036854775808), ?_, (by decide : -9223372036854775808 ≤ (0 : Int) ∧ (0 : Int) < 9223372036854775808), (by decide : (0 : Int) ≤ 0 ∧ (0 : Int) < 340282366920938463463374607431768211456)⟩
    show -9223372036854775808 ≤ (i : Int) ∧ (i : Int) < 9223372036854775808
    omega
theorem yPlainRule_no (a : Sc) (c : Cp) (ad cad : Option Addr) (cap ccap : Nat) (ha : CompsIn X ad a.cs) (hal : a.cs.length < 4611686018427387904) (hno : findC a.cs c.id = none) :
    PSpec Tryz.prog X 25 [Sx a.ver ad a.cs.length cap, Cx c cad ccap] (.sv (SPg c.id 0 none 0 0)) := by
  have hN := pFind_no X a.ver ad cap a.cs c.id ha hal (findC_no hno)
  refine PSpec.intro Tryz.func25 rfl (by kernel_rfl) rfl rfl ?_
  intro C
  (refine LWP.seq <| rgN <| K.box rfl rfl rfl .plain <| K.box rfl rfl rfl .plain <| K.alloc rfl .plain ?_; refine RunK.nil <| LWP.seq <| rgN <| K.loadAll rfl rfl rfl .plain ?_; refine kfa rfl rfl ?_; refine kl1 rfl rfl rfl <| kca rfl rfl hN <| kmv rfl <| kex rfl rfl <| kex rfl rfl <| K.alloc rfl .plain ?_; refine K.storeAll rfl rfl rfl rfl rfl rfl .plain ?_; refine kas rfl <| RunK.nil <| LWP.seq <| LWP.seq <| rgN <| kmv rfl <| K.not rfl rfl .plain <| RunK.nil <| LWP.condT rfl ?_; refine LWP.seq <| rgN <| kfa rfl rfl ?_; refine kl1 rfl rfl rfl <| K.build rfl rfl (by exact rfl) (by exact nl3 rfl rfl rfl rfl) .plain ?_; refine K.storeAll rfl rfl rfl rfl rfl rfl .plain ?_; refine RunK.nil <| LWP.ret ?_)
  exact ⟨[_], ⟨⟨_, _, rfl, rfl, rfl, .inl ⟨AggT.h, rfl⟩⟩, trivial⟩, rfl⟩
abbrev pkSt (o c : Cp) (fad cad : Option Addr) (fcap ccap i : Nat) (vs : List Value) (Y : Nat → Option Obj) : St :=
  ⟨[(3, Lp 3), (4, Lp 4), (5, Lp 5), (7, .sv (.one (.slc 25 0 c.fs.length 1))), (27, Lx cad c.fs.length ccap), (28, Ln .i64 (c.fs.length : Nat)), (29, Ln .i64 (i : Nat))], [(25, some ⟨50, (vs ++ nilV (c.fs.length - i)).map .val, false⟩), cpB 5 o fad fcap, cpB 3 c cad ccap, v3B 27 4 0 0 none 0 0], Y⟩
set_option maxHeartbeats 12800000 in
theorem yPlainRule (a : Sc) (c o : Cp) (ad cad : Option Addr) (cap ccap : Nat) (ha : CompsIn X ad a.cs) (hal : a.cs.length < 4611686018427387904) (haf : ∀ c ∈ a.cs, c.fs.length ≤ 4398046511104) (hC : FieldsIn X cad c.fs) (hcl : c.fs.length ≤ 4398046511104) (ho : findC a.cs c.id = some o) :
    MSpec Tryz.prog X 25 [Sx a.ver ad a.cs.length cap, Cx c cad ccap] [] (.sv (.agg [.val (.int .i64 c.id), .val (.int .i64 c.id), .slc 1000001 0 c.fs.length 1])) [cdB 1000001 (c.fs.map fun f => [plainF o.fs f])] := by
  obtain ⟨k, hk, hid, hpre⟩ := findC_at ho
  have hol := haf o (List.mem_of_getElem? hk)
  have hfind := pFind X a.ver ad cap a.cs c.id ha hal haf hpre hk hid
  obtain ⟨_, _, _, _, _, _, _, _, _, _, _, _, _, _, hoF⟩ := ha.get hk
  have hos := hoF.small
  have hmk : MadeOf Tryz.prog 25 50 1 24 [Value.slice none 0 0] := ⟨by kernel_rfl, by kernel_rfl, rfl⟩
  refine MSpec.intro Tryz.func25 rfl (by kernel_rfl) rfl rfl rfl rfl rfl ?_
  intro C
  refine LWP.ends ?_
  (refine LWP.seq <| rgN <| K.box rfl rfl rfl .plain <| K.box rfl rfl rfl .plain <| K.alloc rfl .plain ?_; refine RunK.nil <| LWP.seq ?_)
  repeat refine LWP.seq ?_
  refine LWP.meetL (fun σ => ∃ (Y : Nat → Option Obj) (fad : Option Addr) (fcap : Nat), (∀ b x, X b = some x → Y b = some x) ∧ FieldsIn Y fad o.fs ∧ σ = ⟨[(3, Lp 3), (4, Lp 4), (5, Lp 5), (6, Lb true)], [cpB 5 o fad fcap, cpB 3 c cad ccap, v3B 27 4 0 0 none 0 0], Y⟩) ?_ ?_
  · rcases hfind with ⟨h0, hf⟩ | hf
    · have hl : o.fs.length = 0 := by rw [h0]; rfl
      (refine rgN <| K.loadAll rfl rfl rfl .plain ?_; refine kfa rfl rfl ?_; refine kl1 rfl rfl rfl <| kca rfl rfl hf <| kmv rfl <| kex rfl rfl <| kex rfl rfl <| K.alloc rfl .plain ?_; refine K.storeAll rfl rfl rfl rfl rfl rfl .plain ?_; refine kas rfl <| RunK.nil ?_)
      exact Leads.here (σ' := ⟨[(3, Lp 3), (4, Lp 4), (5, Lp 5), (6, Lb true)], [cpB 5 o none 0, cpB 3 c cad ccap, v3B 27 4 0 0 none 0 0], X⟩) (Le.of (by exact ⟨rfl, rfl, rfl, rfl, trivial⟩) (by exact ⟨rfl, rfl, rfl, trivial⟩) (by exact rfl) (by exact rfl) (by repeat' (first | refine all_cons_true ?_ ?_ | rfl | exact bytes_inUse | exact vals_inUse | exact mid_inUse rfl))) ⟨X, none, 0, fun _ _ h => h, fields_none h0, rfl⟩
    · (refine rgN <| K.loadAll rfl rfl rfl .plain ?_; refine kfa rfl rfl ?_; refine kl1 rfl rfl rfl <| K.callMp [(1000001, 601)] (.tup [SCs o 601, Sb true]) [fdB 601 o.fs] (hf) rfl rfl (by exact trivial) rfl rfl rfl rfl rfl (by exact (.box rfl (Box.ren_vals _ _ _ _) .nil)) .plain <| kmv rfl <| kex rfl rfl <| kex rfl rfl <| K.alloc rfl .plain ?_; refine K.storeAll rfl rfl rfl rfl rfl rfl .plain ?_; refine kas rfl <| RunK.nil ?_)
      refine Leads.le (σ' := ⟨[(3, Lp 3), (4, Lp 4), (5, Lp 5), (6, Lb true)], [(5, some ⟨24, [.val (.int .i64 o.id), .val (.string ⟨o.nm.toArray⟩)] ++ .slc 601 0 o.fs.length 3 :: [], false⟩), fdB 601 o.fs, cpB 3 c cad ccap, v3B 27 4 0 0 none 0 0], X⟩) (Le.of (by exact ⟨rfl, rfl, rfl, rfl, trivial⟩) (by exact ⟨rfl, rfl, rfl, rfl, trivial⟩) (by exact rfl) (by exact rfl) (by repeat' (first | refine all_cons_true ?_ ?_ | rfl | exact bytes_inUse | exact vals_inUse | exact mid_inUse rfl))) ?_
      refine Leads.freezeCell rfl rfl rfl rfl rfl rfl fun blk cp arr fr hn _ _ _ hsp => ?_
      obtain ⟨sp, hsp⟩ := hsp
      exact Leads.le (Le.of (by exact ⟨rfl, rfl, rfl, rfl, trivial⟩) (by exact ⟨rfl, rfl, rfl, trivial⟩) (by exact rfl) (by exact rfl) (by repeat' (first | refine all_cons_true ?_ ?_ | rfl | exact bytes_inUse | exact vals_inUse | exact mid_inUse rfl))) (Leads.done ⟨_, some ⟨blk, 0, none⟩, cp, withBlock_old hn, fields_block (withBlock_at _ _ _) hsp hos, rfl⟩)
  rintro σ ⟨Y, fad, fcap, hXY, hO, rfl⟩
  clear hfind hoF hos
  replace hC := hC.mono hXY
  clear ha hXY
  (refine LWP.seq <| LWP.seq <| rgN <| kmv rfl <| K.not rfl rfl .plain <| RunK.nil <| LWP.condF rfl ?_; refine LWP.skip ?_; refine LWP.seq <| rgN <| kfa rfl rfl ?_; refine kl1 rfl rfl rfl <| K.lenX rfl SliceT.h rfl .plain ?_; refine K.makeBig (m := c.fs.length) (bytes := 24) rfl rfl hmk (by omega) rfl rfl .plain ?_; refine kas rfl <| RunK.nil <| LWP.seq <| LWP.seq <| rgN <| kfa rfl rfl ?_; refine kl1 rfl rfl rfl <| K.lenX rfl SliceT.h rfl .plain ?_; refine kmv rfl <| RunK.nil <| LWP.block ?_)
  refine LWP.loopL (fun m σ => ∃ (i : Nat) (vs : List Value) (H : Nat → Option Obj), i ≤ c.fs.length ∧ m = c.fs.length - i ∧ OwnedM C Y H ∧ FormsH H vs ((c.fs.take i).map fun f => [plainF o.fs f]) ∧ σ = pkSt o c fad cad fcap ccap i vs (joinM Y H)) c.fs.length
    (Leads.le (σ' := pkSt o c fad cad fcap ccap 0 [] Y) (by unfold pkSt; rw [nilV_flat]; exact Le.of (by exact ⟨rfl, rfl, rfl, rfl, rfl, rfl, rfl, trivial⟩) (by exact ⟨rfl, rfl, rfl, rfl, trivial⟩) (by exact rfl) (by exact rfl) (by repeat' (first | refine all_cons_true ?_ ?_ | rfl | exact bytes_inUse | exact vals_inUse | exact mid_inUse rfl))) (Leads.done ⟨0, [], fun _ => none, by omega, by omega, OwnedM.nil _ _, FormsH.nil, by rw [joinM_nil]⟩)) ?_
  rintro m σ ⟨i, vs, H, hi, rfl, hOw, GF, rfl⟩
  have hvl : vs.length = i := by rw [GF.len, List.length_map, List.length_take]; omega
  by_cases hlt : i < c.fs.length
  case neg =>
    have e : i = c.fs.length := by omega
    subst e
    rw [List.take_length] at GF
    unfold pkSt
    rw [Nat.sub_self, show nilV 0 = [] from rfl, List.append_nil]
    (refine LWP.seq <| rgN <| klt rfl rfl (decide_eq_false (by omega)) <| RunK.nil <| LWP.seq <| LWP.condF rfl ?_; refine LWP.exit <| LWP.seq <| rgN <| kfa rfl rfl ?_; refine kl1 rfl rfl rfl <| kfa rfl rfl ?_; refine kl1 rfl rfl rfl <| kmv rfl <| K.build rfl rfl (by exact rfl) (by exact nl3 rfl rfl rfl rfl) .plain ?_; refine K.storeAll rfl rfl rfl rfl rfl rfl .plain ?_; refine RunK.nil <| LWP.ret ?_)
    refine Leads.le (σ' := ⟨[(4, Lp 4)], [(25, some ⟨50, vs.map .val, false⟩), (4, some ⟨27, [.val (.int .i64 c.id), .val (.int .i64 o.id), .slc 25 0 c.fs.length 1], false⟩)], joinM Y H⟩) (Le.of (by exact ⟨rfl, trivial⟩) (by exact ⟨rfl, rfl, trivial⟩) (by exact rfl) (by exact rfl) (by repeat' (first | refine all_cons_true ?_ ?_ | rfl | exact bytes_inUse | exact vals_inUse | exact mid_inUse rfl))) ?_
    rw [hid]
    refine cd_shut hOw GF (Leads.done ?_)
    exact ⟨[(1000001, 25)], ⟨[_], ⟨⟨_, _, rfl, rfl, rfl, .inl ⟨AggT.h, rfl⟩⟩, trivial⟩, rfl⟩, (by repeat' (first | exact trivial | refine And.intro ⟨_, rfl, ?_⟩ ?_ | refine And.intro ⟨_, rfl⟩ ?_ | rfl | exact Box.ren_bytes _ _ _ _ | exact Box.ren_vals _ _ _ _ | exact Box.ren_mid rfl)), rfl, rfl⟩
  obtain ⟨f, hf⟩ : ∃ f, c.fs[i]? = some f := ⟨_, List.getElem?_eq_getElem hlt⟩
  obtain ⟨fb, fo, farr, fel, ffr, rfl, hFX, hFz, hFc, _⟩ := hC.cells hf
  have hFJ := joinM_has hOw hFX
  have hq := yPlainIns (joinM Y H) o f fad fcap (hO.mono fun b x h => joinM_has hOw h) (by omega)
  have hsmall := plainF_small (fs := o.fs) (f := f) (by omega)
  have hts : (c.fs.take (i + 1)).map (fun f => [plainF o.fs f]) = (c.fs.take i).map (fun f => [plainF o.fs f]) ++ [[plainF o.fs f]] := by rw [take_snoc hf, List.map_append]; rfl
  generalize plainF o.fs f = x at hq hsmall hts
  have hio : fo + Int.toNat (i : Int) * 3 = fo + i * 3 := by simp
  have hix : 0 + Int.toNat (i : Int) * 1 = i := by rw [Int.toNat_natCast]; omega
  have hadd : IntKind.i64.wrap (((i : Nat) : Int) + 1) = ((i + 1 : Nat) : Int) := by rw [wrap_i64 (by omega)]; omega
  have hroom : i + 1 ≤ ((vs ++ nilV (c.fs.length - i)).map CV.val).length := by rw [List.length_map, List.length_append, hvl, nilV_len]; omega
  have hk2 : c.fs.length - i = (c.fs.length - (i + 1)) + 1 := by omega
  have hspl : splice ((vs ++ nilV (c.fs.length - i)).map CV.val) i [.slc 39 0 1 6] = vs.map CV.val ++ .slc 39 0 1 6 :: (nilV (c.fs.length - (i + 1))).map CV.val := by
    rw [hk2, nilV_splice hvl]
  (refine LWP.seq <| rgN <| klt rfl rfl (decide_eq_true (by omega)) <| RunK.nil <| LWP.seq <| LWP.condT rfl ?_; refine LWP.skip ?_; refine LWP.seq <| LWP.block <| LWP.seq <| rgN <| kmv rfl <| K.indexX rfl rfl SliceT.h (by omega) hio .plain <| K.loadXagg rfl hFJ (by kernel_rfl) hFz hFc .plain <| K.alloc rfl .plain ?_; refine kas rfl <| K.storeAll rfl rfl rfl rfl rfl rfl .plain ?_; refine RunK.nil <| rgN <| kmv rfl <| kmv rfl <| K.loadAll rfl rfl rfl .plain ?_; refine K.loadAll rfl rfl rfl .plain ?_; refine kca rfl rfl hq <| K.buildSlc (zs := [Value.int .i64 0, .int .i64 0, .int .i64 0, .bool false, .int .u64 0, .int .u64 0]) (sz := 6) (e := 66) (cs' := (insV x).map .val) (by kernel_rfl) rfl rfl rfl rfl rfl rfl .plain <| K.indexSlc rfl rfl (by omega) hix .plain ?_; refine K.store rfl rfl rfl rfl (by kernel_rfl) hroom hspl .plain <| RunK.nil <| rgN <| kad rfl rfl hadd <| kmv rfl <| RunK.nil ?_)
  refine Leads.le (σ' := ⟨[(3, Lp 3), (4, Lp 4), (5, Lp 5), (7, .sv (.one (.slc 25 0 c.fs.length 1))), (27, Lx (some ⟨fb, fo, none⟩) c.fs.length ccap), (28, Ln .i64 (c.fs.length : Nat)), (29, Ln .i64 (i + 1 : Nat))], [(25, some ⟨50, vs.map CV.val ++ .slc 39 0 1 6 :: (nilV (c.fs.length - (i + 1))).map CV.val, false⟩), (39, some ⟨66, (inssV [x]).map .val, false⟩), cpB 5 o fad fcap, cpB 3 c (some ⟨fb, fo, none⟩) ccap, v3B 27 4 0 0 none 0 0], joinM Y H⟩) (Le.of (by exact ⟨rfl, rfl, rfl, rfl, rfl, rfl, rfl, trivial⟩) (by exact ⟨rfl, rfl, rfl, rfl, rfl, trivial⟩) (by exact rfl) (by exact rfl) (by repeat' (first | refine all_cons_true ?_ ?_ | rfl | exact bytes_inUse | exact vals_inUse | exact mid_inUse rfl))) ?_
  refine Leads.closeCell hOw rfl rfl vals_inUse vals_inUse rfl rfl rfl fun b ob v q1 _ hO3 hv => Leads.done ⟨c.fs.length - (i + 1), by omega, i + 1, vs ++ [v], withBlock H b ob, by omega, rfl, hO3, ?_, ?_⟩
  · rw [hts]
    exact (GF.mono (withBlock_old q1)).push (ins_leads hv (fun y hy => by rw [List.mem_singleton.1 hy]; exact hsmall))
  · unfold pkSt
    simp
end Go.Proofs.YtnfbccfghgmfiaaGreat
end
section
namespace Go.Proofs.YtnfbccfghgmfiaaGreat
open Go Go.Lg Go.Lg.Fml Go.Lg.Fld Go.Lg.Arith
set_option maxRecDepth 100000
variable (X : Nat → Option Obj)
abbrev pqSt (a b : Sc) (ad1 ad2 : Option Addr) (cap1 cap2 i : Nat) (cells : List Value) (Y : Nat → Option Obj) : St :=
  ⟨[(2, Lp 2), (3, Lp 3), (4, Lp 4), (5, .sv (.one (.slc 11 0 b.cs.length 3))), (13, Lx ad2 b.cs.length cap2), (14, Ln .i64 (b.cs.length : Nat)), (15, Ln .i64 (i : Nat))], [(11, some ⟨27, cells.map .val, false⟩), sxB 3 b.ver ad2 b.cs.length cap2, sxB 2 a.ver ad1 a.cs.length cap1, v3B 35 4 0 0 none 0 0], Y⟩
set_option maxHeartbeats 12800000 in
theorem yPlain (a b : Sc) (ad1 ad2 : Option Addr) (cap1 cap2 : Nat) (ha : CompsIn X ad1 a.cs) (hb : CompsIn X ad2 b.cs) (sa : a.cs.length ≤ 4398046511104 ∧ ∀ c ∈ a.cs, c.fs.length ≤ 4398046511104) (sb : b.cs.length ≤ 4398046511104 ∧ ∀ c ∈ b.cs, c.fs.length ≤ 4398046511104) :
    MSpec Tryz.prog X 13 [Sx a.ver ad1 a.cs.length cap1, Sx b.ver ad2 b.cs.length cap2] [] (.sv (.agg [.val (.int .i64 a.ver), .val (.int .i64 b.ver), .slc 1000001 0 b.cs.length 3])) [rlB 27 1000001 (plainP a b).rs] := by
  obtain ⟨sa1, sa2⟩ := sa
  obtain ⟨sb1, sb2⟩ := sb
  have hmk : MadeOf Tryz.prog 33 27 3 40 [Value.int .i64 0, Value.int .i64 0, Value.slice none 0 0] := ⟨by kernel_rfl, by kernel_rfl, rfl⟩
  have hsm : ∀ r ∈ (plainP a b).rs, smallR r := fun r hr => by
    obtain ⟨c, hc, rfl⟩ := List.mem_map.1 hr
    have h := hb.small c hc
    unfold plainR
    split
    · exact ⟨h, by show -9223372036854775808 ≤ (0 : Int) ∧ (0 : Int) < _; decide⟩
    · exact ⟨h, h⟩
  refine MSpec.intro Tryz.func13 rfl (by kernel_rfl) rfl rfl rfl rfl rfl ?_
  intro C
  refine LWP.ends ?_
  (refine LWP.seq <| rgN <| K.box rfl rfl rfl .plain <| K.box rfl rfl rfl .plain <| K.alloc rfl .plain ?_; refine RunK.nil <| LWP.seq <| rgN <| kfa rfl rfl ?_; refine kl1 rfl rfl rfl <| K.lenX rfl SliceT.h rfl .plain ?_; refine K.makeBig (m := b.cs.length) (bytes := 40) rfl rfl hmk (by omega) rfl rfl .plain ?_; refine kas rfl <| RunK.nil <| LWP.seq <| LWP.seq <| rgN <| kfa rfl rfl ?_; refine kl1 rfl rfl rfl <| K.lenX rfl SliceT.h rfl .plain ?_; refine kmv rfl <| RunK.nil <| LWP.block ?_)
  refine LWP.loopL (fun m σ => ∃ (i : Nat) (ws : List Value) (H : Nat → Option Obj), i ≤ b.cs.length ∧ m = b.cs.length - i ∧ OwnedM C X H ∧ RulesH H ws ((b.cs.take i).map (plainR a)) ∧ σ = pqSt a b ad1 ad2 cap1 cap2 i (rwZ ((b.cs.take i).map (plainR a)) ws ++ zrl (b.cs.length - i)) (joinM X H)) b.cs.length
    (Leads.le (σ' := pqSt a b ad1 ad2 cap1 cap2 0 (zrl b.cs.length) X) (by unfold pqSt zrl; exact Le.of (by exact ⟨rfl, rfl, rfl, rfl, rfl, rfl, rfl, trivial⟩) (by exact ⟨rfl, rfl, rfl, rfl, trivial⟩) (by exact rfl) (by exact rfl) (by repeat' (first | refine all_cons_true ?_ ?_ | rfl | exact bytes_inUse | exact vals_inUse | exact mid_inUse rfl))) (Leads.done ⟨0, [], fun _ => none, by omega, by omega, OwnedM.nil _ _, RulesH.nil, by rw [joinM_nil]; rfl⟩)) ?_
  rintro m σ ⟨i, ws, H, hi, rfl, hO, GR, rfl⟩
  have hwl : ws.length = i := by rw [GR.len, List.length_map, List.length_take]; omega
  have hwl2 : ws.length = ((b.cs.take i).map (plainR a)).length := GR.len
  by_cases hlt : i < b.cs.length
  case neg =>
    have e : i = b.cs.length := by omega
    subst e
    rw [List.take_length] at *
    unfold pqSt
    rw [Nat.sub_self, show zrl 0 = [] from rfl]
    (refine LWP.seq <| rgN <| klt rfl rfl (decide_eq_false (by omega)) <| RunK.nil <| LWP.seq <| LWP.condF rfl ?_; refine LWP.exit <| LWP.seq <| rgN <| kfa rfl rfl ?_; refine kl1 rfl rfl rfl <| kfa rfl rfl ?_; refine kl1 rfl rfl rfl <| kmv rfl <| K.build rfl rfl (by exact rfl) (by exact nl3 rfl rfl rfl rfl) .plain ?_; refine K.storeAll rfl rfl rfl rfl rfl rfl .plain ?_; refine RunK.nil <| LWP.ret ?_)
    refine Leads.le (σ' := ⟨[(4, Lp 4)], [(11, some ⟨27, (rwZ (b.cs.map (plainR a)) ws ++ []).map .val, false⟩), (4, some ⟨35, [.val (.int .i64 a.ver), .val (.int .i64 b.ver), .slc 11 0 b.cs.length 3], false⟩)], joinM X H⟩) (Le.of (by exact ⟨rfl, trivial⟩) (by exact ⟨rfl, rfl, trivial⟩) (by exact rfl) (by exact rfl) (by repeat' (first | refine all_cons_true ?_ ?_ | rfl | exact bytes_inUse | exact vals_inUse | exact mid_inUse rfl))) ?_
    refine rl_shut hO GR hsm (Leads.done ?_)
    exact ⟨[(1000001, 11)], ⟨[_], ⟨⟨_, _, rfl, rfl, rfl, .inl ⟨AggT.h, rfl⟩⟩, trivial⟩, rfl⟩, (by repeat' (first | exact trivial | refine And.intro ⟨_, rfl, ?_⟩ ?_ | refine And.intro ⟨_, rfl⟩ ?_ | rfl | exact Box.ren_bytes _ _ _ _ | exact Box.ren_vals _ _ _ _ | exact Box.ren_mid rfl)), rfl, rfl⟩
  obtain ⟨c, hc⟩ : ∃ c, b.cs[i]? = some c := ⟨_, List.getElem?_eq_getElem hlt⟩
  have hcm := List.mem_of_getElem? hc
  obtain ⟨blk, off, arr, el, fr, cad, ccap, rfl, hX, hsz, hcs, _, _, _, hF⟩ := hb.get hc
  have hXJ := joinM_has hO hX
  have haJ := ha.mono fun b x h => joinM_has hO h
  have hFJ := hF.mono (Y := joinM X H) fun b x h => joinM_has hO h
  have hio : off + Int.toNat (i : Int) * 3 = off + i * 3 := by simp
  have hix : 0 + Int.toNat (i : Int) * 3 = i * 3 := by rw [Int.toNat_natCast]; omega
  have hadd : IntKind.i64.wrap (((i : Nat) : Int) + 1) = ((i + 1 : Nat) : Int) := by rw [wrap_i64 (by omega)]; omega
  have hpl : (rwZ ((b.cs.take i).map (plainR a)) ws).length = i * 3 := by rw [rwZ_len hwl2, ← hwl2, hwl]
  have hroom : i * 3 + 3 ≤ ((rwZ ((b.cs.take i).map (plainR a)) ws ++ zrl (b.cs.length - i)).map CV.val).length := by rw [List.length_map, List.length_append, hpl, zrl_len]; omega
  have hts : (b.cs.take (i + 1)).map (plainR a) = (b.cs.take i).map (plainR a) ++ [plainR a c] := by rw [take_snoc hc, List.map_append]; rfl
  have hadd3 : ∀ v, rwZ ((b.cs.take (i + 1)).map (plainR a)) (ws ++ [v]) = rwZ ((b.cs.take i).map (plainR a)) ws ++ [.int .i64 (plainR a c).nw, .int .i64 (plainR a c).old, v] := fun v => by rw [hts, rwZ_add hwl2]
  have hspl : ∀ (x y : Int) (cv : CV), splice ((rwZ ((b.cs.take i).map (plainR a)) ws ++ zrl (b.cs.length - i)).map CV.val) (i * 3) [.val (.int .i64 x), .val (.int .i64 y), cv] = (rwZ ((b.cs.take i).map (plainR a)) ws ++ [Value.int .i64 x, Value.int .i64 y]).map CV.val ++ cv :: (zrl (b.cs.length - (i + 1))).map .val := fun x y cv => by
    unfold splice
    rw [show b.cs.length - i = (b.cs.length - (i + 1)) + 1 by omega, zrl_succ]
    simp only [List.map_append, List.append_assoc]
    have hml : ((rwZ ((b.cs.take i).map (plainR a)) ws).map CV.val).length = i * 3 := by rw [List.length_map, hpl]
    generalize (rwZ ((b.cs.take i).map (plainR a)) ws).map CV.val = R at *
    rw [← hml, List.take_left, List.drop_length_add_append]
    simp
  cases ho : findC a.cs c.id with
  | none =>
    have hq := yPlainRule_no (joinM X H) a c ad1 cad cap1 ccap haJ (by omega) ho
    have hr : plainR a c = ⟨c.id, 0, []⟩ := by unfold plainR; rw [ho]
    have hcell : (rwZ ((b.cs.take i).map (plainR a)) ws ++ [Value.int .i64 c.id, Value.int .i64 0]).map CV.val ++ .val (.slice none 0 0) :: (zrl (b.cs.length - (i + 1))).map .val = (rwZ ((b.cs.take (i + 1)).map (plainR a)) (ws ++ [.slice none 0 0]) ++ zrl (b.cs.length - (i + 1))).map .val := by rw [hadd3, hr]; simp
    (refine LWP.seq <| rgN <| klt rfl rfl (decide_eq_true (by omega)) <| RunK.nil <| LWP.seq <| LWP.condT rfl ?_; refine LWP.skip ?_; refine LWP.seq <| LWP.block <| LWP.seq <| rgN <| kmv rfl <| K.indexX rfl rfl SliceT.h (by omega) hio .plain <| K.loadXagg rfl hXJ (by kernel_rfl) hsz hcs .plain <| K.alloc rfl .plain ?_; refine kas rfl <| K.storeAll rfl rfl rfl rfl rfl rfl .plain ?_; refine RunK.nil <| rgN <| kmv rfl <| kmv rfl <| K.loadAll rfl rfl rfl .plain ?_; refine K.loadAll rfl rfl rfl .plain ?_; refine kca rfl rfl hq <| K.indexSlc rfl rfl (by omega) hix .plain ?_; refine K.store rfl rfl rfl rfl (by kernel_rfl) hroom (hspl _ _ _) .plain <| RunK.nil <| rgN <| kad rfl rfl hadd <| kmv rfl <| RunK.nil ?_)
    refine Leads.le (σ' := pqSt a b ad1 (some ⟨blk, off, none⟩) cap1 cap2 (i + 1) (rwZ ((b.cs.take (i + 1)).map (plainR a)) (ws ++ [.slice none 0 0]) ++ zrl (b.cs.length - (i + 1))) (joinM X H)) ?_ (Leads.done ⟨b.cs.length - (i + 1), by omega, i + 1, ws ++ [.slice none 0 0], H, by omega, rfl, hO, ?_, rfl⟩)
    · rw [hcell]
      exact Le.of (by exact ⟨rfl, rfl, rfl, rfl, rfl, rfl, rfl, trivial⟩) (by exact ⟨rfl, rfl, rfl, rfl, trivial⟩) (by exact rfl) (by exact rfl) (by repeat' (first | refine all_cons_true ?_ ?_ | rfl | exact bytes_inUse | exact vals_inUse | exact mid_inUse rfl))
    · rw [hts, hr]
      exact GR.push ⟨none, 0, rfl, CodesIn.nil⟩
  | some o =>
    have hq := yPlainRule (joinM X H) a c o ad1 cad cap1 ccap haJ (by omega) sa2 hFJ (sb2 c hcm) ho
    have hr : plainR a c = ⟨c.id, c.id, c.fs.map fun f => [plainF o.fs f]⟩ := by unfold plainR; rw [ho]
    (refine LWP.seq <| rgN <| klt rfl rfl (decide_eq_true (by omega)) <| RunK.nil <| LWP.seq <| LWP.condT rfl ?_; refine LWP.skip ?_; refine LWP.seq <| LWP.block <| LWP.seq <| rgN <| kmv rfl <| K.indexX rfl rfl SliceT.h (by omega) hio .plain <| K.loadXagg rfl hXJ (by kernel_rfl) hsz hcs .plain <| K.alloc rfl .plain ?_; refine kas rfl <| K.storeAll rfl rfl rfl rfl rfl rfl .plain ?_; refine RunK.nil <| rgN <| kmv rfl <| kmv rfl <| K.loadAll rfl rfl rfl .plain ?_; refine K.loadAll rfl rfl rfl .plain ?_; refine K.callMp [(1000001, 601)] (.sv (.agg [.val (.int .i64 c.id), .val (.int .i64 c.id), .slc 601 0 c.fs.length 1])) [cdB 601 (c.fs.map fun f => [plainF o.fs f])] (hq) rfl rfl (by exact trivial) rfl rfl rfl rfl rfl (by exact (.box rfl rfl .nil)) .plain <| K.indexSlc rfl rfl (by omega) hix .plain ?_; refine K.store rfl rfl rfl rfl (by kernel_rfl) hroom (hspl _ _ _) .plain <| RunK.nil <| rgN <| kad rfl rfl hadd <| kmv rfl <| RunK.nil ?_)
    refine Leads.le (σ' := ⟨[(2, Lp 2), (3, Lp 3), (4, Lp 4), (5, .sv (.one (.slc 11 0 b.cs.length 3))), (13, Lx (some ⟨blk, off, none⟩) b.cs.length cap2), (14, Ln .i64 (b.cs.length : Nat)), (15, Ln .i64 (i + 1 : Nat))], [(11, some ⟨27, (rwZ ((b.cs.take i).map (plainR a)) ws ++ [Value.int .i64 c.id, Value.int .i64 c.id]).map CV.val ++ .slc 601 0 c.fs.length 1 :: (zrl (b.cs.length - (i + 1))).map .val, false⟩), cdB 601 (c.fs.map fun f => [plainF o.fs f]), sxB 3 b.ver (some ⟨blk, off, none⟩) b.cs.length cap2, sxB 2 a.ver ad1 a.cs.length cap1, v3B 35 4 0 0 none 0 0], joinM X H⟩) (Le.of (by exact ⟨rfl, rfl, rfl, rfl, rfl, rfl, rfl, trivial⟩) (by exact ⟨rfl, rfl, rfl, rfl, rfl, trivial⟩) (by exact rfl) (by exact rfl) (by repeat' (first | refine all_cons_true ?_ ?_ | rfl | exact bytes_inUse | exact vals_inUse | exact mid_inUse rfl))) ?_
    refine Leads.fixCell rfl vals_inUse vals_inUse rfl rfl rfl fun ρ H2 pc hR hO2 _ _ => ?_
    rw [joinM_join]
    refine Leads.le (σ' := pqSt a b ad1 (some ⟨blk, off, none⟩) cap1 cap2 (i + 1) (rwZ ((b.cs.take (i + 1)).map (plainR a)) (ws ++ [.slice (some ⟨ρ.1, 0, none⟩) c.fs.length pc]) ++ zrl (b.cs.length - (i + 1))) (joinM X (joinM H H2))) ?_ (Leads.done ⟨b.cs.length - (i + 1), by omega, i + 1, ws ++ [.slice (some ⟨ρ.1, 0, none⟩) c.fs.length pc], joinM H H2, by omega, rfl, hO.join hO2, ?_, rfl⟩)
    · have hcell : (rwZ ((b.cs.take i).map (plainR a)) ws ++ [Value.int .i64 c.id, Value.int .i64 c.id]).map CV.val ++ .val (.slice (some ⟨ρ.1, 0, none⟩) c.fs.length pc) :: (zrl (b.cs.length - (i + 1))).map .val = (rwZ ((b.cs.take (i + 1)).map (plainR a)) (ws ++ [.slice (some ⟨ρ.1, 0, none⟩) c.fs.length pc]) ++ zrl (b.cs.length - (i + 1))).map .val := by rw [hadd3, hr]; simp
      rw [hcell]
      exact Le.of (by exact ⟨rfl, rfl, rfl, rfl, rfl, rfl, rfl, trivial⟩) (by exact ⟨rfl, rfl, rfl, rfl, trivial⟩) (by exact rfl) (by exact rfl) (by repeat' (first | refine all_cons_true ?_ ?_ | rfl | exact bytes_inUse | exact vals_inUse | exact mid_inUse rfl))
    · rw [hts, hr]
      exact (GR.mono (joinM_keeps hO2)).push ⟨_, pc, by rw [List.length_map], hR.2.mono fun b x h => joinM_in h⟩
end Go.Proofs.YtnfbccfghgmfiaaGreat
end
section
namespace Go.Proofs.YtnfbccfghgmfiaaGreat
open Go Go.Lg Go.Lg.Fml Go.Lg.Fld Go.Lg.Arith
set_option maxRecDepth 100000
structure NmsIn (X : Nat → Option Obj) (ad : Option Addr) (l : List Int) : Prop where
  at_ : ∀ (i : Nat) (v : Int), l[i]? = some v → ∃ (blk off : Nat) (arr : Array Value) (el : TypeId) (fr : Nat × Nat), ad = some ⟨blk, off, none⟩ ∧ X blk = some (.cells arr el fr) ∧ arr[off + i * 1]? = some (.int .i64 v)
theorem NmsIn.mono {X Y : Nat → Option Obj} (hXY : ∀ b o, X b = some o → Y b = some o) {ad : Option Addr} {l : List Int} (h : NmsIn X ad l) : NmsIn Y ad l := ⟨fun i v hv => by
  obtain ⟨blk, off, arr, el, fr, h1, h2, h3⟩ := h.at_ i v hv
  exact ⟨blk, off, arr, el, fr, h1, hXY _ _ h2, h3⟩⟩
theorem nms_block {Y : Nat → Option Obj} {blk : Nat} {arr : Array Value} {el : TypeId} {fr : Nat × Nat} {l : List Int} (hY : Y blk = some (.cells arr el fr)) (h : ∃ sp, arr.toList = int1 l ++ sp) : NmsIn Y (some ⟨blk, 0, none⟩) l := ⟨fun i v hv => by
  obtain ⟨sp, h⟩ := h
  have hi := (List.getElem?_eq_some_iff.1 hv).1
  refine ⟨blk, 0, arr, el, fr, rfl, hY, ?_⟩
  rw [← Array.getElem?_toList, h, Nat.zero_add, Nat.mul_one, List.getElem?_append_left (by unfold int1; rw [List.length_map]; exact hi)]
  unfold int1
  rw [List.getElem?_map, hv]; rfl⟩
theorem idsV_int1 (cs : List Cp) : idsV cs = int1 (cs.map Cp.id) := by unfold idsV int1; rw [List.map_map]; rfl
theorem findI_any {α : Type} (p : α → Bool) (l : List α) : decide (0 ≤ findI p l) = l.any p := by
  unfold findI
  cases hq : l.findIdx? p with
  | none =>
    simp only
    have := List.findIdx?_eq_none_iff.1 hq
    rw [List.any_eq_false.2 (fun x hx => by simpa using this x hx)]
    rfl
  | some i =>
    obtain ⟨hi, h1, _⟩ := List.findIdx?_eq_some_iff_getElem.1 hq
    rw [List.any_eq_true.2 ⟨l[i], List.getElem_mem hi, h1⟩]
    simp
variable (X : Nat → Option Obj)
theorem yIndex (l : List Int) (ad : Option Addr) (cap : Nat) (v : Int) (hin : NmsIn X ad l) (hbig : l.length < 4611686018427387904) :
    PSpec Tryz.prog X 62 [Lx ad l.length cap, Ln .i64 v] (Ln .i64 (findI (fun x => v == x) l)) := by
  refine PSpec.intro Tryz.func62 rfl (by kernel_rfl) rfl rfl ?_
  intro C
  (refine LWP.seq <| rgN <| kas rfl <| RunK.nil <| LWP.seq <| LWP.seq <| rgN <| kmv rfl <| K.lenX rfl SliceT.h rfl .plain ?_; refine kmv rfl <| RunK.nil <| LWP.block ?_)
  refine LWP.loop (fun m σ => ∃ i : Nat, i ≤ l.length ∧ m = l.length - i ∧ (∀ (j : Nat) (y : Int), j < i → l[j]? = some y → (v == y) = false) ∧ σ = ⟨[(0, Lx ad l.length cap), (1, Ln .i64 v), (7, Ln .i64 (l.length : Nat)), (8, Ln .i64 (i : Nat))], [], X⟩) l.length
    ⟨_, Le.of (by exact ⟨rfl, rfl, rfl, rfl, trivial⟩) (by exact trivial) (by exact rfl) (by exact rfl) (by exact rfl), 0, by omega, by omega, fun j y hj => absurd hj (by omega), rfl⟩ ?_
  rintro m σ ⟨i, hi, rfl, hpre, rfl⟩
  by_cases hlt : i < l.length
  · obtain ⟨c, hc⟩ : ∃ c, l[i]? = some c := ⟨_, List.getElem?_eq_getElem hlt⟩
    obtain ⟨blk, off, arr, el, fr, rfl, hX, hcs⟩ := hin.at_ i c hc
    have hio : off + Int.toNat (i : Int) * 1 = off + i * 1 := by simp
    have hadd : IntKind.i64.wrap (((i : Nat) : Int) + 1) = ((i + 1 : Nat) : Int) := by rw [wrap_i64 (by omega)]; omega
    cases hpc : (v == c) with
    | true =>
      rw [findI_some hpre hc hpc]
      (refine LWP.seq <| rgN <| klt rfl rfl (decide_eq_true (by omega)) <| RunK.nil <| LWP.seq <| LWP.condT rfl ?_; refine LWP.skip ?_; refine LWP.seq <| LWP.block <| LWP.seq <| rgN <| kmv rfl <| kas rfl <| RunK.nil <| LWP.seq <| rgN <| kmv rfl <| kmv rfl <| kmv rfl <| K.indexX rfl rfl SliceT.h (by omega) hio .plain <| K.loadX rfl hX rfl hcs .plain ?_; refine keq rfl rfl hpc <| RunK.nil <| LWP.condT rfl ?_; refine LWP.seq <| rgN <| kmv rfl <| kas rfl <| RunK.nil <| LWP.ret ?_)
      exact ⟨[_], ⟨rfl, trivial⟩, rfl⟩
    | false =>
      (refine LWP.seq <| rgN <| klt rfl rfl (decide_eq_true (by omega)) <| RunK.nil <| LWP.seq <| LWP.condT rfl ?_; refine LWP.skip ?_; refine LWP.seq <| LWP.block <| LWP.seq <| rgN <| kmv rfl <| kas rfl <| RunK.nil <| LWP.seq <| rgN <| kmv rfl <| kmv rfl <| kmv rfl <| K.indexX rfl rfl SliceT.h (by omega) hio .plain <| K.loadX rfl hX rfl hcs .plain ?_; refine keq rfl rfl hpc <| RunK.nil <| LWP.condF rfl ?_; refine LWP.skip ?_; refine rgN <| kad rfl rfl hadd <| kmv rfl <| RunK.nil ?_)
      exact ⟨_, _, by omega, Le.of (by exact ⟨rfl, rfl, rfl, rfl, trivial⟩) (by exact trivial) (by exact rfl) (by exact rfl) (by exact rfl), i + 1, by omega, rfl, (fun j y hj hy => by
        by_cases e : j = i
        · subst e; rw [hc] at hy; cases hy; exact hpc
        · exact hpre j y (by omega) hy), rfl⟩
  · rw [findI_none fun j y hy => hpre j y (by have := (List.getElem?_eq_some_iff.1 hy).1; omega) hy]
    (refine LWP.seq <| rgN <| klt rfl rfl (decide_eq_false (by omega)) <| RunK.nil <| LWP.seq <| LWP.condF rfl ?_; refine LWP.exit <| LWP.seq <| rgN <| kas rfl <| RunK.nil <| LWP.ret ?_)
    exact ⟨[_], ⟨rfl, trivial⟩, rfl⟩
theorem yContains (l : List Int) (ad : Option Addr) (cap : Nat) (v : Int) (hin : NmsIn X ad l) (hbig : l.length < 4611686018427387904) :
    PSpec Tryz.prog X 47 [Lx ad l.length cap, Ln .i64 v] (Lb (l.any fun x => v == x)) := by
  have hI := yIndex X l ad cap v hin hbig
  refine PSpec.intro Tryz.func47 rfl (by kernel_rfl) rfl rfl ?_
  intro C
  (refine LWP.seq <| rgN <| kas rfl <| RunK.nil <| LWP.seq <| rgN <| kmv rfl <| kmv rfl <| kca rfl rfl hI <| K.geq rfl rfl (findI_any _ _) .plain <| kas rfl <| RunK.nil <| LWP.ret ?_)
  exact ⟨[_], ⟨rfl, trivial⟩, rfl⟩
theorem yEqual (l m : List Int) (ad ad2 : Option Addr) (cap cap2 : Nat) (ha : NmsIn X ad l) (hb : NmsIn X ad2 m) (hbig : l.length < 4611686018427387904) (r : Bool) (hr : decide (l = m) = r) :
    PSpec Tryz.prog X 29 [Lx ad l.length cap, Lx ad2 m.length cap2] (Lb r) := by
  subst hr
  refine PSpec.intro Tryz.func29 rfl (by kernel_rfl) rfl rfl ?_
  intro C
  by_cases hl : l.length = m.length
  · (refine LWP.seq <| rgN <| kas rfl <| RunK.nil <| LWP.seq <| LWP.seq <| rgN <| kmv rfl <| K.lenX rfl SliceT.h rfl .plain ?_; refine kmv rfl <| K.lenX rfl SliceT.h rfl .plain ?_; refine kne rfl rfl (r := false) (by rw [hl]; simp) <| RunK.nil <| LWP.condF rfl ?_; refine LWP.skip ?_; refine LWP.seq <| LWP.seq <| rgN <| kmv rfl <| K.lenX rfl SliceT.h rfl .plain ?_; refine kmv rfl <| RunK.nil <| LWP.block ?_)
    refine LWP.loop (fun q σ => ∃ i : Nat, i ≤ l.length ∧ q = l.length - i ∧ l.take i = m.take i ∧ σ = ⟨[(0, Lx ad l.length cap), (1, Lx ad2 m.length cap2), (12, Ln .i64 (l.length : Nat)), (13, Ln .i64 (i : Nat))], [], X⟩) l.length
      ⟨_, Le.of (by exact ⟨rfl, rfl, rfl, rfl, trivial⟩) (by exact trivial) (by exact rfl) (by exact rfl) (by exact rfl), 0, by omega, rfl, rfl, rfl⟩ ?_
    rintro q σ ⟨i, hi, rfl, hpre, rfl⟩
    by_cases hlt : i < l.length
    · obtain ⟨f, hf⟩ : ∃ v, l[i]? = some v := ⟨_, List.getElem?_eq_getElem hlt⟩
      obtain ⟨f', hf'⟩ : ∃ v, m[i]? = some v := ⟨_, List.getElem?_eq_getElem (by omega)⟩
      obtain ⟨blk, off, arr, el, fr, rfl, hX, hcells⟩ := ha.at_ i f hf
      obtain ⟨blk', off', arr', el', fr', rfl, hX', hcells'⟩ := hb.at_ i f' hf'
      have hio : off + Int.toNat (i : Int) * 1 = off + i * 1 := by simp
      have hio' : off' + Int.toNat (i : Int) * 1 = off' + i * 1 := by simp
      have hadd : IntKind.i64.wrap (((i : Nat) : Int) + 1) = ((i + 1 : Nat) : Int) := by rw [wrap_i64 (by omega)]; omega
      by_cases hq : f = f'
      · (refine LWP.seq <| rgN <| klt rfl rfl (decide_eq_true (by omega)) <| RunK.nil <| LWP.seq <| LWP.condT rfl ?_; refine LWP.skip ?_; refine LWP.seq <| LWP.block <| LWP.seq <| rgN <| kmv rfl <| kas rfl <| RunK.nil <| LWP.seq <| rgD mixed <| kmv rfl <| kmv rfl <| K.indexX rfl rfl SliceT.h (by omega) hio .plain <| K.loadX rfl hX rfl hcells .plain <| kmv rfl ?_; refine kmv rfl <| K.indexX rfl rfl SliceT.h (by omega) hio' .plain <| K.loadX rfl hX' rfl hcells' .plain <| kne rfl rfl (r := false) (bne_eq_false_iff_eq.2 hq) <| RunK.nil <| rgA ?_; refine LWP.condF rfl ?_; refine LWP.skip ?_; refine rgN <| kad rfl rfl hadd <| kmv rfl <| RunK.nil ?_)
        exact ⟨_, _, by omega, Le.of (by exact ⟨rfl, rfl, rfl, rfl, trivial⟩) (by exact trivial) (by exact rfl) (by exact rfl) (by exact rfl), i + 1, by omega, rfl, by rw [take_snoc hf, take_snoc hf', hpre, hq], rfl⟩
      · rw [decide_eq_false (show ¬l = m from fun e => hq (by rw [e, hf'] at hf; exact (Option.some.inj hf).symm))]
        (refine LWP.seq <| rgN <| klt rfl rfl (decide_eq_true (by omega)) <| RunK.nil <| LWP.seq <| LWP.condT rfl ?_; refine LWP.skip ?_; refine LWP.seq <| LWP.block <| LWP.seq <| rgN <| kmv rfl <| kas rfl <| RunK.nil <| LWP.seq <| rgD mixed <| kmv rfl <| kmv rfl <| K.indexX rfl rfl SliceT.h (by omega) hio .plain <| K.loadX rfl hX rfl hcells .plain <| kmv rfl ?_; refine kmv rfl <| K.indexX rfl rfl SliceT.h (by omega) hio' .plain <| K.loadX rfl hX' rfl hcells' .plain <| kne rfl rfl (r := true) (bne_iff_ne.2 hq) <| RunK.nil <| rgA ?_; refine LWP.condT rfl ?_; refine LWP.seq <| rgN <| kas rfl <| RunK.nil <| LWP.ret ?_)
        exact ⟨[_], ⟨rfl, trivial⟩, rfl⟩
    · have e : i = l.length := by omega
      subst e
      rw [List.take_length, List.take_of_length_le (by omega)] at hpre
      rw [decide_eq_true hpre]
      (refine LWP.seq <| rgN <| klt rfl rfl (decide_eq_false (by omega)) <| RunK.nil <| LWP.seq <| LWP.condF rfl ?_; refine LWP.exit <| LWP.seq <| rgN <| kas rfl <| RunK.nil <| LWP.ret ?_)
      exact ⟨[_], ⟨rfl, trivial⟩, rfl⟩
  · rw [decide_eq_false (show ¬l = m from fun e => hl (by rw [e]))]
    (refine LWP.seq <| rgN <| kas rfl <| RunK.nil <| LWP.seq <| LWP.seq <| rgN <| kmv rfl <| K.lenX rfl SliceT.h rfl .plain ?_; refine kmv rfl <| K.lenX rfl SliceT.h rfl .plain ?_; refine kne rfl rfl (r := true) (by rw [bne_iff_ne]; omega) <| RunK.nil <| LWP.condT rfl ?_; refine LWP.seq <| rgN <| kas rfl <| RunK.nil <| LWP.ret ?_)
    exact ⟨[_], ⟨rfl, trivial⟩, rfl⟩
theorem equal_lent {S : Nat → Option (Option Box)} {l m : List Int} {j k n1 n2 : Nat} {e1 e2 : TypeId} {row1 row2 : Bool} {r : Bool} (hbig : l.length < 4611686018427387904) (hr : decide (l = m) = r) (h1 : n1 = l.length) (h2 : n2 = m.length) (hj : S j = some (some ⟨e1, (int1 l).map .val, row1⟩)) (hk : S k = some (some ⟨e2, (int1 m).map .val, row2⟩)) :
    ∀ (Y : Nat → Option Obj) (us : List Value), (∀ b o, X b = some o → Y b = some o) → LentLs S Y [.sv (.one (.slc j 0 n1)), .sv (.one (.slc k 0 n2))] us → PSpec Tryz.prog Y 29 (us.map toLV) (Lb r) := by
  subst h1 h2
  intro Y us hY hL
  obtain ⟨u1, us1, rfl, g1, u2, us2, rfl, g2, rfl⟩ := hL
  obtain ⟨b1, blk1, cap1, m1, hq1, rfl, hc1, hf1, hB1⟩ := g1
  obtain ⟨b2, blk2, cap2, m2, hq2, rfl, hc2, hf2, hB2⟩ := g2
  rw [hj] at hq1
  rw [hk] at hq2
  simp only [Option.some.injEq] at hq1 hq2
  subst hq1 hq2
  obtain ⟨arr1, fr1, us1', sp1, hY1, hsz1, harr1, hv1⟩ := hB1
  obtain ⟨arr2, fr2, us2', sp2, hY2, hsz2, harr2, hv2⟩ := hB2
  have := hv1 (int1 l) rfl
  subst this
  have := hv2 (int1 m) rfl
  subst this
  exact yEqual Y l m (some ⟨blk1, 0, none⟩) (some ⟨blk2, 0, none⟩) cap1 cap2 (nms_block hY1 ⟨sp1, harr1⟩) (nms_block hY2 ⟨sp2, harr2⟩) hbig r hr
theorem yNewIds (va vb : Int) (rs : List Rl) (ad : Option Addr) (cap : Nat) (hin : RulesIn X ad rs) (hS : rs.length ≤ 65536) :
    MSpec Tryz.prog X 30 [LPg va vb ad rs.length cap] [] (.sv (.one (.slc 1000001 0 rs.length))) [(1000001, some ⟨3, (int1 (rs.map Rl.nw)).map .val, false⟩)] := by
  refine MSpec.intro Tryz.func30 rfl (by kernel_rfl) rfl rfl (by exact (by repeat' (first | refine all_cons_true ?_ ?_ | rfl | exact bytes_inUse | exact vals_inUse | exact mid_inUse rfl))) rfl rfl ?_
  intro C
  have hmk : slcBuild Tryz.prog 86 rs.length = some (List.replicate rs.length (.int .i64 0), 1, 3) := slcBuild_one (by kernel_rfl) (by kernel_rfl) (by omega)
  (refine LWP.seq <| rgN <| K.box rfl rfl rfl .plain <| kas rfl <| RunK.nil <| LWP.seq <| rgN <| kfa rfl rfl ?_; refine kl1 rfl rfl rfl <| K.lenX rfl SliceT.h rfl .plain ?_; refine K.makeSlc (m := rs.length) (bytes := 8) rfl rfl hmk (by kernel_rfl) (by omega) rfl rfl .plain <| kas rfl <| RunK.nil <| LWP.seq <| LWP.seq <| rgN <| kfa rfl rfl ?_; refine kl1 rfl rfl rfl <| K.lenX rfl SliceT.h rfl .plain ?_; refine kmv rfl <| RunK.nil <| LWP.block ?_)
  refine LWP.loop (fun m σ => ∃ i : Nat, i ≤ rs.length ∧ m = rs.length - i ∧ σ = ⟨[(3, .sv (.one (.slc 9 0 rs.length))), (11, Lx ad rs.length cap), (12, Ln .i64 (rs.length : Nat)), (13, Ln .i64 (i : Nat))], [(9, some ⟨3, (int1 ((rs.take i).map Rl.nw) ++ List.replicate (rs.length - i) (Value.int .i64 0)).map .val, false⟩)], X⟩) rs.length
    ⟨_, Le.of (by exact ⟨rfl, rfl, rfl, rfl, trivial⟩) (by exact ⟨rfl, trivial⟩) (by exact rfl) (by exact rfl) (by repeat' (first | refine all_cons_true ?_ ?_ | rfl | exact bytes_inUse | exact vals_inUse | exact mid_inUse rfl)), 0, by omega, by omega, rfl⟩ ?_
  rintro m σ ⟨i, hi, rfl, rfl⟩
  by_cases hlt : i < rs.length
  · obtain ⟨c, hc⟩ : ∃ c, rs[i]? = some c := ⟨_, List.getElem?_eq_getElem hlt⟩
    obtain ⟨blk, off, arr, el, fr, fad, fcap, rfl, hX, hsz, hcs, _, _, _, hF⟩ := hin.get hc
    have hio : off + Int.toNat (i : Int) * 3 = off + i * 3 := by simp
    have hix : 0 + Int.toNat (i : Int) * 1 = i := by rw [Int.toNat_natCast]; omega
    have hadd : IntKind.i64.wrap (((i : Nat) : Int) + 1) = ((i + 1 : Nat) : Int) := by rw [wrap_i64 (by omega)]; omega
    have hil : (int1 ((rs.take i).map Rl.nw)).length = i := by unfold int1; rw [List.length_map, List.length_map, List.length_take]; omega
    have hroom : i + 1 ≤ ((int1 ((rs.take i).map Rl.nw) ++ List.replicate (rs.length - i) (Value.int .i64 0)).map CV.val).length := by rw [List.length_map, List.length_append, hil, List.length_replicate]; omega
    have hspl : splice ((int1 ((rs.take i).map Rl.nw) ++ List.replicate (rs.length - i) (Value.int .i64 0)).map CV.val) i [.val (.int .i64 c.nw)] = (int1 ((rs.take (i + 1)).map Rl.nw) ++ List.replicate (rs.length - (i + 1)) (Value.int .i64 0)).map CV.val := by
      unfold splice
      rw [show rs.length - i = (rs.length - (i + 1)) + 1 by omega, List.replicate_succ, take_snoc hc]
      have e : int1 ((rs.take i ++ [c]).map Rl.nw) = int1 ((rs.take i).map Rl.nw) ++ [.int .i64 c.nw] := by unfold int1; rw [List.map_append, List.map_append]; rfl
      rw [e]
      simp only [List.map_append, List.append_assoc]
      have hml : ((int1 ((rs.take i).map Rl.nw)).map CV.val).length = i := by rw [List.length_map, hil]
      generalize (int1 ((rs.take i).map Rl.nw)).map CV.val = R at *
      rw [← hml, List.take_left, List.drop_length_add_append]
      simp
    (refine LWP.seq <| rgN <| klt rfl rfl (decide_eq_true (by omega)) <| RunK.nil <| LWP.seq <| LWP.condT rfl ?_; refine LWP.skip ?_; refine LWP.seq <| LWP.block <| LWP.seq <| rgN <| kmv rfl <| K.indexX rfl rfl SliceT.h (by omega) hio .plain <| K.loadXagg rfl hX (by kernel_rfl) hsz hcs .plain <| K.alloc rfl .plain ?_; refine kas rfl <| K.storeAll rfl rfl rfl rfl rfl rfl .plain ?_; refine RunK.nil <| rgN <| kmv rfl <| kmv rfl <| kfa rfl rfl ?_; refine kl1 rfl rfl rfl <| K.indexSlc rfl rfl (by omega) hix .plain ?_; refine K.store rfl rfl rfl rfl (by kernel_rfl) hroom hspl .plain <| RunK.nil <| rgN <| kad rfl rfl hadd <| kmv rfl <| RunK.nil ?_)
    exact ⟨_, _, by omega, Le.of (by exact ⟨rfl, rfl, rfl, rfl, trivial⟩) (by exact ⟨rfl, trivial⟩) (by exact rfl) (by exact rfl) (by repeat' (first | refine all_cons_true ?_ ?_ | rfl | exact bytes_inUse | exact vals_inUse | exact mid_inUse rfl)), i + 1, by omega, rfl, rfl⟩
  · have e : i = rs.length := by omega
    subst e
    rw [List.take_length, Nat.sub_self, List.replicate_zero, List.append_nil]
    (refine LWP.seq <| rgN <| klt rfl rfl (decide_eq_false (by omega)) <| RunK.nil <| LWP.seq <| LWP.condF rfl ?_; refine LWP.exit <| LWP.seq <| rgN <| kmv rfl <| kas rfl <| RunK.nil <| LWP.ret ?_)
    exact ⟨[(1000001, 9)], ⟨[_], ⟨rfl, trivial⟩, rfl⟩, (by repeat' (first | exact trivial | refine And.intro ⟨_, rfl, ?_⟩ ?_ | refine And.intro ⟨_, rfl⟩ ?_ | rfl | exact Box.ren_bytes _ _ _ _ | exact Box.ren_vals _ _ _ _ | exact Box.ren_mid rfl)), rfl, rfl⟩
def oldB (ids : List Int) (r : Rl) : Bool := r.old != 0 && !(ids.any fun x => r.old == x)
theorem yOld1 (r : Rl) (ead : Option Addr) (ecap : Nat) (ids : List Int) (iad : Option Addr) (icap : Nat) {b : Nat} {arr : Array Value} {el : TypeId} {fr : Nat × Nat} (hX : X b = some (.cells arr el fr)) (h0 : arr[0]? = some (.slice iad ids.length icap)) (hin : NmsIn X iad ids) (hbig : ids.length < 4611686018427387904) :
    PSpec Tryz.prog X 46 [LPg r.nw r.old ead r.ex.length ecap, Vp' b] (Lb (oldB ids r)) := by
  have hC := yContains X ids iad icap r.old hin hbig
  refine PSpec.intro Tryz.func46 rfl (by kernel_rfl) rfl rfl ?_
  intro C
  by_cases h : r.old = 0
  · rw [show oldB ids r = false by unfold oldB; rw [h]; rfl]
    (refine LWP.seq <| rgN <| K.box rfl rfl rfl .plain <| kas rfl <| RunK.nil <| LWP.seq <| rgN <| kfa rfl rfl ?_; refine kl1 rfl rfl rfl <| kne rfl rfl (r := false) (bne_eq_false_iff_eq.2 h) <| kmv rfl <| RunK.passed rfl rfl rfl <| RunK.passed rfl rfl rfl <| RunK.passed rfl rfl rfl <| RunK.passed rfl rfl rfl <| RunK.passed rfl rfl rfl <| kpf rfl rfl <| kas rfl <| RunK.nil <| LWP.ret ?_)
    exact ⟨[_], ⟨rfl, trivial⟩, rfl⟩
  · rw [show oldB ids r = !(ids.any fun x => r.old == x) by unfold oldB; rw [bne_iff_ne.2 h]; rfl]
    (refine LWP.seq <| rgN <| K.box rfl rfl rfl .plain <| kas rfl <| RunK.nil <| LWP.seq <| rgN <| kfa rfl rfl ?_; refine kl1 rfl rfl rfl <| kne rfl rfl (r := true) (bne_iff_ne.2 h) <| kmv rfl <| K.loadX rfl hX rfl h0 (.taken rfl rfl) ?_; refine K.fieldAddr rfl rfl (.taken rfl rfl) ?_; refine K.loadOne rfl rfl rfl (.taken rfl rfl) ?_; refine gca rfl rfl hC rfl rfl <| K.not rfl rfl (.taken rfl rfl) ?_; refine kpt rfl rfl <| kas rfl <| RunK.nil <| LWP.ret ?_)
    exact ⟨[_], ⟨rfl, trivial⟩, rfl⟩
theorem yContainsFunc (ad : Option Addr) (cap : Nat) (rs : List Rl) (hin : RulesIn X ad rs) (hbig : rs.length < 4611686018427387904) (f : FuncId) (caps : List Value) (p : Rl → Bool)
    (hp : ∀ r ∈ rs, ∀ ead ecap, PSpec Tryz.prog X f ([LPg r.nw r.old ead r.ex.length ecap] ++ caps.map fun v => .sv (.one (.val v))) (Lb (p r))) :
    PSpec Tryz.prog X 45 [Lx ad rs.length cap, Lf f caps] (Lb (rs.any p)) := by
  have hI := kIndex X ad cap rs hin hbig f caps p hp
  refine PSpec.intro Tryz.func45 rfl (by kernel_rfl) rfl rfl ?_
  intro C
  (refine LWP.seq <| rgN <| kas rfl <| RunK.nil <| LWP.seq <| rgN <| kmv rfl <| kmv rfl <| kca rfl rfl hI <| K.geq rfl rfl (findI_any _ _) .plain <| kas rfl <| RunK.nil <| LWP.ret ?_)
  exact ⟨[_], ⟨rfl, trivial⟩, rfl⟩
theorem yHasOlds (a : Sc) (p : Pg) (ad1 ad : Option Addr) (cap1 cap : Nat) (ha : CompsIn X ad1 a.cs) (hp : RulesIn X ad p.rs) (hal : a.cs.length ≤ 65536) (hpl : p.rs.length < 4611686018427387904) :
    PSpec Tryz.prog X 32 [Sx a.ver ad1 a.cs.length cap1, LPg p.va p.vb ad p.rs.length cap] (Lb (!(p.rs.any (oldB (a.cs.map Cp.id))))) := by
  obtain ⟨va, vb, rs⟩ := p
  simp only at hp hpl ⊢
  have hI := pIds X a.ver ad1 cap1 a.cs ha hal
  rw [idsV_int1] at hI
  refine PSpec.intro Tryz.func32 rfl (by kernel_rfl) rfl rfl ?_
  intro C
  (refine LWP.seq <| rgN <| K.box rfl rfl rfl .plain <| K.box rfl rfl rfl .plain <| kas rfl <| RunK.nil <| LWP.seq <| rgN <| K.loadAll rfl rfl rfl .plain ?_; refine K.callMp [(1000001, 601)] (.sv (.one (.slc 601 0 a.cs.length))) [(601, some ⟨3, (int1 (a.cs.map Cp.id)).map .val, false⟩)] (hI) rfl rfl (by exact trivial) rfl rfl rfl rfl rfl (by exact (.box rfl (Box.ren_vals _ _ _ _) .nil)) .plain <| K.alloc rfl .plain ?_; refine K.storeOne rfl rfl rfl rfl rfl (nl1 rfl rfl) .plain <| RunK.nil <| LWP.seq ?_)
  refine LWP.le (σ' := ⟨[(5, Lp 5), (3, Lp 3)], [(5, some ⟨86, [] ++ .slc 601 0 a.cs.length 1 :: [], false⟩), (601, some ⟨3, (int1 (a.cs.map Cp.id)).map .val, false⟩), v3B 35 3 va vb ad rs.length cap], X⟩) (Le.of (by exact ⟨rfl, rfl, trivial⟩) (by exact ⟨rfl, rfl, rfl, trivial⟩) (by exact rfl) (by exact rfl) (by repeat' (first | refine all_cons_true ?_ ?_ | rfl | exact bytes_inUse | exact vals_inUse | exact mid_inUse rfl))) ?_
  refine LWP.freezeCell rfl rfl rfl rfl rfl rfl fun b1 c1 a1 f1 hn1 _ _ _ hs1 => ?_
  have hM := nms_block (withBlock_at X b1 (.cells a1 3 f1)) hs1
  have hXY := withBlock_old (o := .cells a1 3 f1) hn1
  replace hp := hp.mono hXY
  clear ha hI hs1 hn1 hXY
  generalize withBlock X b1 (.cells a1 3 f1) = Y at *
  generalize (some ⟨b1, 0, none⟩ : Option Addr) = iad at *
  refine LWP.le (σ' := ⟨[(5, Lp 5), (3, Lp 3)], [(5, some ⟨86, [Value.slice iad a.cs.length c1].map .val, false⟩), v3B 35 3 va vb ad rs.length cap], Y⟩) (Le.of (by exact ⟨rfl, rfl, trivial⟩) (by exact ⟨rfl, rfl, trivial⟩) (by exact rfl) (by exact rfl) (by repeat' (first | refine all_cons_true ?_ ?_ | rfl | exact bytes_inUse | exact vals_inUse | exact mid_inUse rfl))) ?_
  refine LWP.freezePtr (by rfl) (by rfl) (by rfl) fun b arr0 fr0 hn _ h0 => ?_
  have hl : (a.cs.map Cp.id).length = a.cs.length := List.length_map ..
  have hq := yContainsFunc _ ad cap rs (hp.mono (withBlock_old (o := .cells arr0 86 fr0) hn)) hpl 46 [.pointer (some ⟨b, 0, none⟩)] (oldB (a.cs.map Cp.id)) (fun r _ ead ecap => yOld1 _ r ead ecap (a.cs.map Cp.id) iad c1 (withBlock_at Y b (.cells arr0 86 fr0)) (by rw [hl]; exact at_zero h0) (hM.mono (withBlock_old hn)) (by omega))
  (refine rgN <| kfa rfl rfl ?_; refine kl1 rfl rfl rfl <| K.makeFunc rfl rfl .plain ?_; refine kca rfl rfl hq <| K.not rfl rfl .plain <| kas rfl <| RunK.nil <| LWP.ret ?_)
  exact ⟨[_], ⟨rfl, trivial⟩, rfl⟩
end Go.Proofs.YtnfbccfghgmfiaaGreat
end
section
namespace Go.Proofs.YtnfbccfghgmfiaaGreat
open Go Go.Lg Go.Lg.Fml Go.Lg.Fld Go.Lg.Arith
set_option maxRecDepth 100000
def e4 : List UInt8 × Bool → Nat × List UInt8 × Bool
  | (l, b) => if b = false ∧ 4 ≤ l.length then (le (l.take 4), l.drop 4, false) else (0, l, true)
structure KE (l : List UInt8) (b : Bool) (c : List Ins) (l' : List UInt8) (b' : Bool) : Prop where
  less : l'.length ≤ l.length
  bad : b = true → b' = true
  ok : c.length < 256 ∧ ∀ x ∈ c, smallI x
  get : (b = false ∧ b' = false ∧ getE l = some (c, l')) ∨ ((b = true ∨ getE l = none) ∧ (b' = true ∨ c = []))
structure KEs (l : List UInt8) (b : Bool) (i : Nat) (cs : List (List Ins)) (l' : List UInt8) (b' : Bool) : Prop where
  len : cs.length = i
  less : l'.length ≤ l.length
  bad : b = true → b' = true
  ok : ∀ c ∈ cs, c.length < 256 ∧ ∀ x ∈ c, smallI x
  get : (b = false ∧ b' = false ∧ getEs i l = some (cs, l')) ∨ ((b = true ∨ ∀ k, getEs (i + k) l = none) ∧ (b' = true ∨ [] ∈ cs))
def okK (r : Rl) : Prop := (0 ≤ r.nw ∧ r.nw < 256) ∧ (0 ≤ r.old ∧ r.old < 256) ∧ r.ex.length < 256 ∧ ∀ c ∈ r.ex, c.length < 256 ∧ ∀ x ∈ c, smallI x
structure KR (l : List UInt8) (b : Bool) (r : Rl) (l' : List UInt8) (b' : Bool) : Prop where
  less : l'.length ≤ l.length
  bad : b = true → b' = true
  ok : okK r
  get : (b = false ∧ b' = false ∧ getRl l = some (r, l')) ∨ ((b = true ∨ getRl l = none) ∧ (b' = true ∨ [] ∈ r.ex))
structure KRs (l : List UInt8) (b : Bool) (i : Nat) (rs : List Rl) (l' : List UInt8) (b' : Bool) : Prop where
  len : rs.length = i
  less : l'.length ≤ l.length
  bad : b = true → b' = true
  ok : ∀ r ∈ rs, okK r
  get : (b = false ∧ b' = false ∧ getRls i l = some (rs, l')) ∨ ((b = true ∨ ∀ k, getRls (i + k) l = none) ∧ (b' = true ∨ ∃ r ∈ rs, [] ∈ r.ex))
variable (X : Nat → Option Obj)
end Go.Proofs.YtnfbccfghgmfiaaGreat
end
section
namespace Go.Proofs.YtnfbccfghgmfiaaGreat
open Go Go.Lg Go.Lg.Fml Go.Lg.Fld Go.Lg.Arith
set_option maxRecDepth 100000
def pgOk (p : Pg) : Prop := p.rs.length ≤ 30 ∧ ∀ r ∈ p.rs, r.ex.length ≤ 12 ∧ ∀ c ∈ r.ex, c.length ≤ 80
theorem pgOk.size {p : Pg} (h : pgOk p) : sizeR p.rs := fun r hr => by
  obtain ⟨h1, h2⟩ := h.2 r hr
  exact ⟨by omega, fun c hc => by have := h2 c hc; omega⟩
theorem pgOk.big {p : Pg} (h : pgOk p) : p.rs.length < 4611686018427387904 := by have := h.1; omega
variable (X : Nat → Option Obj)
section
variable (p : Pg) (ad : Option Addr) (cap : Nat) (hin : RulesIn X ad p.rs) (hs : pgOk p)
include hin hs
theorem hCheck : PSpec Tryz.prog X 44 [LPg p.va p.vb ad p.rs.length cap] (Ln .i64 (chkP p)) := kCheck X p ad cap hin hs.big hs.size
end
end Go.Proofs.YtnfbccfghgmfiaaGreat
end
section
namespace Go.Proofs.YtnfbccfghgmfiaaGreat
open Go Go.Lg Go.Lg.Fml Go.Lg.Fld Go.Lg.Arith
set_option maxRecDepth 100000
theorem oldB_false {cs : List Cp} {r : Rl} : oldB (cs.map Cp.id) r = false ↔ (r.old = 0 ∨ (findC cs r.old).isSome = true) := by
  unfold oldB
  by_cases h : r.old = 0
  · simp [h]
  · have e : ((cs.map Cp.id).any fun x => r.old == x) = (findC cs r.old).isSome := by
      unfold findC
      rw [List.any_map]
      cases hf : cs.find? (fun c => c.id == r.old) with
      | none =>
        rw [List.any_eq_false.2 (fun x hx => by
          have := List.find?_eq_none.1 hf x hx
          simp only [beq_iff_eq, Function.comp_apply] at this ⊢
          exact fun e => this e.symm)]
        rfl
      | some c =>
        obtain ⟨hm, hi⟩ := findC_some hf
        rw [List.any_eq_true.2 ⟨c, hm, by simp [hi]⟩]
        rfl
    rw [e]
    simp [h]
theorem news_iff {a b : Sc} {p : Pg} : (p.rs.map Rl.nw = b.cs.map Cp.id ∧ p.rs.any (oldB (a.cs.map Cp.id)) = false) ↔ (p.rs.length = b.cs.length ∧ seqE (nwE a) (p.rs.zip b.cs) = 0) := by
  constructor
  · rintro ⟨h1, h2⟩
    refine ⟨by have := congrArg List.length h1; simpa using this, seqE_none fun q hq => ?_⟩
    obtain ⟨i, hi⟩ := List.mem_iff_getElem?.1 hq
    obtain ⟨g1, g2⟩ := List.getElem?_zip_eq_some.1 hi
    unfold nwE
    rw [if_pos]
    refine ⟨?_, oldB_false.1 (by simpa using List.any_eq_false.1 h2 q.1 (List.mem_of_getElem? g1))⟩
    have := congrArg (fun l => l[i]?) h1
    simp only [List.getElem?_map, g1, g2, Option.map_some, Option.some.injEq] at this
    exact this
  · rintro ⟨h1, h2⟩
    have hz := seqE_zero h2
    have key : ∀ (i : Nat) (r : Rl) (c : Cp), p.rs[i]? = some r → b.cs[i]? = some c → r.nw = c.id ∧ (r.old = 0 ∨ (findC a.cs r.old).isSome = true) := fun i r c hr hc => by
      have := hz (r, c) (List.mem_of_getElem? (zip_two hr hc))
      unfold nwE at this
      split at this
      · rename_i h; exact h
      · cases this
    refine ⟨?_, List.any_eq_false.2 fun r hr => ?_⟩
    · apply List.ext_getElem?
      intro i
      rw [List.getElem?_map, List.getElem?_map]
      by_cases hi : i < p.rs.length
      · obtain ⟨r, hr⟩ : ∃ r, p.rs[i]? = some r := ⟨_, List.getElem?_eq_getElem hi⟩
        obtain ⟨c, hc⟩ : ∃ c, b.cs[i]? = some c := ⟨_, List.getElem?_eq_getElem (by omega)⟩
        rw [hr, hc]
        exact congrArg some (key i r c hr hc).1
      · rw [List.getElem?_eq_none (by omega), List.getElem?_eq_none (by omega)]; rfl
    · obtain ⟨i, hi⟩ := List.mem_iff_getElem?.1 hr
      have hlt := (List.getElem?_eq_some_iff.1 hi).1
      obtain ⟨c, hc⟩ : ∃ c, b.cs[i]? = some c := ⟨_, List.getElem?_eq_getElem (by omega)⟩
      rw [oldB_false.2 (key i r c hi hc).2]
      decide
def eaE (a b : Sc) (p : Pg) : Int := if chkE a = 0 then (if chkE b = 0 then chkP p else chkE b) else chkE a
theorem ckE_each {a b : Sc} {p : Pg} (h : eaE a b p ≠ 0) : ckE a b p = eaE a b p := by
  unfold eaE at h ⊢
  unfold ckE
  by_cases h1 : chkE a = 0
  · rw [if_pos h1] at h ⊢
    by_cases h2 : chkE b = 0
    · rw [if_pos h2] at h ⊢
      rw [if_pos h1, if_pos h2, if_neg h]
    · rw [if_neg h2] at h ⊢
      rw [if_pos h1, if_neg h2]
  · rw [if_neg h1, if_neg h1]
theorem eaE_zero {a b : Sc} {p : Pg} (h : eaE a b p = 0) : chkE a = 0 ∧ chkE b = 0 ∧ chkP p = 0 := by
  unfold eaE at h
  by_cases h1 : chkE a = 0
  · rw [if_pos h1] at h
    by_cases h2 : chkE b = 0
    · rw [if_pos h2] at h; exact ⟨h1, h2, h⟩
    · rw [if_neg h2] at h; exact absurd h h2
  · rw [if_neg h1] at h; exact absurd h h1
theorem ckE_go {a b : Sc} {p : Pg} (h : eaE a b p = 0) : ckE a b p = if p.va = a.ver ∧ p.vb = b.ver ∧ p.va < p.vb then (if p.rs.length = b.cs.length then (if seqE (nwE a) (p.rs.zip b.cs) = 0 then seqE (ruC a) (p.rs.zip b.cs) else 6) else 6) else 7 := by
  obtain ⟨h1, h2, h3⟩ := eaE_zero h
  unfold ckE
  rw [if_pos h1, if_pos h2, if_pos h3]
variable (X : Nat → Option Obj)
theorem yEach (a b : Sc) (p : Pg) (ad1 ad2 ad : Option Addr) (cap1 cap2 cap : Nat) (ha : CompsIn X ad1 a.cs) (hb : CompsIn X ad2 b.cs) (hp : RulesIn X ad p.rs) (na : NamesC a.cs) (nb : NamesC b.cs) (hal : a.cs.length < 4611686018427387904) (hbl : b.cs.length < 4611686018427387904) (sp : pgOk p) :
    PSpec Tryz.prog X 28 [Sx a.ver ad1 a.cs.length cap1, Sx b.ver ad2 b.cs.length cap2, LPg p.va p.vb ad p.rs.length cap] (Ln .i64 (eaE a b p)) := by
  have hA := pCheckBig X a ad1 cap1 ha hal na _ rfl
  have hB := pCheckBig X b ad2 cap2 hb hbl nb _ rfl
  have hP := hCheck X p ad cap hp sp
  refine PSpec.intro Tryz.func28 rfl (by kernel_rfl) rfl rfl ?_
  intro C
  unfold eaE
  by_cases h1 : chkE a = 0
  case neg =>
    rw [if_neg h1]
    generalize chkE a = e at *
    (refine LWP.seq <| rgN <| K.box rfl rfl rfl .plain <| K.box rfl rfl rfl .plain <| K.box rfl rfl rfl .plain <| kas rfl <| RunK.nil <| LWP.seq <| LWP.seq <| rgN <| K.loadAll rfl rfl rfl .plain ?_; refine kca rfl rfl hA <| kas rfl <| RunK.nil <| LWP.seq <| rgN <| kmv rfl <| kne rfl rfl (r := true) (bne_iff_ne.2 h1) <| RunK.nil <| LWP.condT rfl ?_; refine LWP.seq <| rgN <| kmv rfl <| kas rfl <| RunK.nil <| LWP.ret ?_)
    exact ⟨[_], ⟨rfl, trivial⟩, rfl⟩
  rw [if_pos h1]
  rw [h1] at hA
  by_cases h2 : chkE b = 0
  case neg =>
    rw [if_neg h2]
    generalize chkE b = e at *
    (refine LWP.seq <| rgN <| K.box rfl rfl rfl .plain <| K.box rfl rfl rfl .plain <| K.box rfl rfl rfl .plain <| kas rfl <| RunK.nil <| LWP.seq <| LWP.seq <| rgN <| K.loadAll rfl rfl rfl .plain ?_; refine kca rfl rfl hA <| kas rfl <| RunK.nil <| LWP.seq <| rgN <| kmv rfl <| kne rfl rfl (r := false) rfl <| RunK.nil <| LWP.condF rfl ?_; refine LWP.skip ?_; refine LWP.seq <| LWP.seq <| rgN <| K.loadAll rfl rfl rfl .plain ?_; refine kca rfl rfl hB <| kas rfl <| RunK.nil <| LWP.seq <| rgN <| kmv rfl <| kne rfl rfl (r := true) (bne_iff_ne.2 h2) <| RunK.nil <| LWP.condT rfl ?_; refine LWP.seq <| rgN <| kmv rfl <| kas rfl <| RunK.nil <| LWP.ret ?_)
    exact ⟨[_], ⟨rfl, trivial⟩, rfl⟩
  rw [if_pos h2]
  rw [h2] at hB
  generalize chkP p = e at *
  (refine LWP.seq <| rgN <| K.box rfl rfl rfl .plain <| K.box rfl rfl rfl .plain <| K.box rfl rfl rfl .plain <| kas rfl <| RunK.nil <| LWP.seq <| LWP.seq <| rgN <| K.loadAll rfl rfl rfl .plain ?_; refine kca rfl rfl hA <| kas rfl <| RunK.nil <| LWP.seq <| rgN <| kmv rfl <| kne rfl rfl (r := false) rfl <| RunK.nil <| LWP.condF rfl ?_; refine LWP.skip ?_; refine LWP.seq <| LWP.seq <| rgN <| K.loadAll rfl rfl rfl .plain ?_; refine kca rfl rfl hB <| kas rfl <| RunK.nil <| LWP.seq <| rgN <| kmv rfl <| kne rfl rfl (r := false) rfl <| RunK.nil <| LWP.condF rfl ?_; refine LWP.skip ?_; refine LWP.seq <| rgN <| K.loadAll rfl rfl rfl .plain ?_; refine kca rfl rfl hP <| kas rfl <| RunK.nil <| LWP.ret ?_)
  exact ⟨[_], ⟨rfl, trivial⟩, rfl⟩
abbrev ycSt (a b : Sc) (p : Pg) (ad1 ad2 ad : Option Addr) (cap1 cap2 cap i : Nat) (Y : Nat → Option Obj) : St :=
  ⟨[(3, Lp 3), (4, Lp 4), (54, Lx ad p.rs.length cap), (55, Ln .i64 (p.rs.length : Nat)), (56, Ln .i64 (i : Nat))], [sxB 4 b.ver ad2 b.cs.length cap2, sxB 3 a.ver ad1 a.cs.length cap1], Y⟩
set_option maxHeartbeats 12800000 in
theorem yCheck (a b : Sc) (p : Pg) (ad1 ad2 ad : Option Addr) (cap1 cap2 cap : Nat) (ha : CompsIn X ad1 a.cs) (hb : CompsIn X ad2 b.cs) (hp : RulesIn X ad p.rs) (na : NamesC a.cs) (nb : NamesC b.cs) (sa : a.cs.length ≤ 30 ∧ ∀ c ∈ a.cs, c.fs.length ≤ 12) (sb : b.cs.length ≤ 30 ∧ ∀ c ∈ b.cs, c.fs.length ≤ 12) (sp : pgOk p) :
    PSpec Tryz.prog X 15 [Sx a.ver ad1 a.cs.length cap1, Sx b.ver ad2 b.cs.length cap2, LPg p.va p.vb ad p.rs.length cap] (Ln .i64 (ckE a b p)) := by
  obtain ⟨sa1, sa2⟩ := sa
  obtain ⟨sb1, sb2⟩ := sb
  have sp1 := sp.1
  have hE := yEach X a b p ad1 ad2 ad cap1 cap2 cap ha hb hp na nb (by omega) (by omega) sp
  refine PSpec.intro Tryz.func15 rfl (by kernel_rfl) rfl rfl ?_
  intro C
  by_cases h0 : eaE a b p = 0
  case neg =>
    rw [ckE_each h0]
    generalize eaE a b p = e at *
    (refine LWP.seq <| rgN <| K.box rfl rfl rfl .plain <| K.box rfl rfl rfl .plain <| K.box rfl rfl rfl .plain <| kas rfl <| RunK.nil <| LWP.seq <| LWP.seq <| rgN <| K.loadAll rfl rfl rfl .plain ?_; refine K.loadAll rfl rfl rfl .plain ?_; refine K.loadAll rfl rfl rfl .plain ?_; refine kca rfl rfl hE <| kas rfl <| RunK.nil <| LWP.seq <| rgN <| kmv rfl <| kne rfl rfl (r := true) (bne_iff_ne.2 h0) <| RunK.nil <| LWP.condT rfl ?_; refine LWP.seq <| rgN <| kmv rfl <| kas rfl <| RunK.nil <| LWP.ret ?_)
    exact ⟨[_], ⟨rfl, trivial⟩, rfl⟩
  rw [ckE_go h0]
  rw [h0] at hE
  by_cases c1 : p.va = a.ver
  case neg =>
    rw [if_neg (fun h => c1 h.1)]
    (refine LWP.seq <| rgN <| K.box rfl rfl rfl .plain <| K.box rfl rfl rfl .plain <| K.box rfl rfl rfl .plain <| kas rfl <| RunK.nil <| LWP.seq <| LWP.seq <| rgN <| K.loadAll rfl rfl rfl .plain ?_; refine K.loadAll rfl rfl rfl .plain ?_; refine K.loadAll rfl rfl rfl .plain ?_; refine kca rfl rfl hE <| kas rfl <| RunK.nil <| LWP.seq <| rgN <| kmv rfl <| kne rfl rfl (r := false) rfl <| RunK.nil <| LWP.condF rfl ?_; refine LWP.skip ?_; refine LWP.seq <| LWP.block <| LWP.seq <| rgN <| kfa rfl rfl ?_; refine kl1 rfl rfl rfl <| kfa rfl rfl ?_; refine kl1 rfl rfl rfl <| kne rfl rfl (r := true) (bne_iff_ne.2 c1) <| kmv rfl <| RunK.passed rfl rfl rfl <| RunK.passed rfl rfl rfl <| RunK.passed rfl rfl rfl <| RunK.passed rfl rfl rfl <| RunK.passed rfl rfl rfl <| kpt rfl rfl <| kmv rfl <| RunK.passed rfl rfl rfl <| RunK.passed rfl rfl rfl <| RunK.passed rfl rfl rfl <| RunK.passed rfl rfl rfl ?_; refine RunK.passed rfl rfl rfl <| kpt rfl rfl <| kas rfl <| RunK.nil <| LWP.condT rfl ?_; refine LWP.seq <| rgN <| kas rfl <| RunK.nil <| LWP.ret ?_)
    exact ⟨[_], ⟨rfl, trivial⟩, rfl⟩
  by_cases c2 : p.vb = b.ver
  case neg =>
    rw [if_neg (fun h => c2 h.2.1)]
    (refine LWP.seq <| rgN <| K.box rfl rfl rfl .plain <| K.box rfl rfl rfl .plain <| K.box rfl rfl rfl .plain <| kas rfl <| RunK.nil <| LWP.seq <| LWP.seq <| rgN <| K.loadAll rfl rfl rfl .plain ?_; refine K.loadAll rfl rfl rfl .plain ?_; refine K.loadAll rfl rfl rfl .plain ?_; refine kca rfl rfl hE <| kas rfl <| RunK.nil <| LWP.seq <| rgN <| kmv rfl <| kne rfl rfl (r := false) rfl <| RunK.nil <| LWP.condF rfl ?_; refine LWP.skip ?_; refine LWP.seq <| LWP.block <| LWP.seq <| rgN <| kfa rfl rfl ?_; refine kl1 rfl rfl rfl <| kfa rfl rfl ?_; refine kl1 rfl rfl rfl <| kne rfl rfl (r := false) (bne_eq_false_iff_eq.2 c1) <| kmv rfl <| K.fieldAddr rfl rfl (.taken rfl rfl) ?_; refine K.loadOne rfl rfl rfl (.taken rfl rfl) ?_; refine K.fieldAddr rfl rfl (.taken rfl rfl) ?_; refine K.loadOne rfl rfl rfl (.taken rfl rfl) ?_; refine K.neq rfl rfl (r := true) (bne_iff_ne.2 c2) (.taken rfl rfl) ?_; refine kpf rfl rfl <| kmv rfl <| RunK.passed rfl rfl rfl <| RunK.passed rfl rfl rfl <| RunK.passed rfl rfl rfl <| RunK.passed rfl rfl rfl <| RunK.passed rfl rfl rfl <| kpt rfl rfl <| kas rfl <| RunK.nil <| LWP.condT rfl ?_; refine LWP.seq <| rgN <| kas rfl <| RunK.nil <| LWP.ret ?_)
    exact ⟨[_], ⟨rfl, trivial⟩, rfl⟩
  by_cases c3 : p.va < p.vb
  case neg =>
    rw [if_neg (fun h => c3 h.2.2)]
    (refine LWP.seq <| rgN <| K.box rfl rfl rfl .plain <| K.box rfl rfl rfl .plain <| K.box rfl rfl rfl .plain <| kas rfl <| RunK.nil <| LWP.seq <| LWP.seq <| rgN <| K.loadAll rfl rfl rfl .plain ?_; refine K.loadAll rfl rfl rfl .plain ?_; refine K.loadAll rfl rfl rfl .plain ?_; refine kca rfl rfl hE <| kas rfl <| RunK.nil <| LWP.seq <| rgN <| kmv rfl <| kne rfl rfl (r := false) rfl <| RunK.nil <| LWP.condF rfl ?_; refine LWP.skip ?_; refine LWP.seq <| LWP.block <| LWP.seq <| rgN <| kfa rfl rfl ?_; refine kl1 rfl rfl rfl <| kfa rfl rfl ?_; refine kl1 rfl rfl rfl <| kne rfl rfl (r := false) (bne_eq_false_iff_eq.2 c1) <| kmv rfl <| K.fieldAddr rfl rfl (.taken rfl rfl) ?_; refine K.loadOne rfl rfl rfl (.taken rfl rfl) ?_; refine K.fieldAddr rfl rfl (.taken rfl rfl) ?_; refine K.loadOne rfl rfl rfl (.taken rfl rfl) ?_; refine K.neq rfl rfl (r := false) (bne_eq_false_iff_eq.2 c2) (.taken rfl rfl) ?_; refine kpf rfl rfl <| kmv rfl <| K.fieldAddr rfl rfl (.taken rfl rfl) ?_; refine K.loadOne rfl rfl rfl (.taken rfl rfl) ?_; refine K.fieldAddr rfl rfl (.taken rfl rfl) ?_; refine K.loadOne rfl rfl rfl (.taken rfl rfl) ?_; refine K.geq rfl rfl (decide_eq_true (by omega)) (.taken rfl rfl) ?_; refine kpf rfl rfl <| kas rfl <| RunK.nil <| LWP.condT rfl ?_; refine LWP.seq <| rgN <| kas rfl <| RunK.nil <| LWP.ret ?_)
    exact ⟨[_], ⟨rfl, trivial⟩, rfl⟩
  rw [if_pos ⟨c1, c2, c3⟩]
  have hN := yNewIds X p.va p.vb p.rs ad cap hp (by omega)
  have hI := pIds X b.ver ad2 cap2 b.cs hb (by omega)
  rw [idsV_int1] at hI
  have hO := yHasOlds X a p ad1 ad cap1 cap ha hp (by omega) (by omega)
  by_cases d1 : p.rs.map Rl.nw = b.cs.map Cp.id
  case neg =>
    have hr : (if p.rs.length = b.cs.length then (if seqE (nwE a) (p.rs.zip b.cs) = 0 then seqE (ruC a) (p.rs.zip b.cs) else 6) else (6 : Int)) = 6 := by
      by_cases e1 : p.rs.length = b.cs.length
      · rw [if_pos e1]
        by_cases e2 : seqE (nwE a) (p.rs.zip b.cs) = 0
        · exact absurd (news_iff.2 ⟨e1, e2⟩).1 d1
        · rw [if_neg e2]
      · rw [if_neg e1]
    rw [hr]
    have hQ := fun (S : Nat → Option (Option Box)) h1 h2 => equal_lent X (S := S) (l := p.rs.map Rl.nw) (m := b.cs.map Cp.id) (j := 601) (k := 602) (n1 := p.rs.length) (n2 := b.cs.length) (e1 := 3) (e2 := 3) (row1 := false) (row2 := false) (by rw [List.length_map]; omega) (decide_eq_false d1) (List.length_map ..).symm (List.length_map ..).symm h1 h2
    ((refine LWP.seq <| rgN <| K.box rfl rfl rfl .plain <| K.box rfl rfl rfl .plain <| K.box rfl rfl rfl .plain <| kas rfl <| RunK.nil <| LWP.seq <| LWP.seq <| rgN <| K.loadAll rfl rfl rfl .plain ?_; refine K.loadAll rfl rfl rfl .plain ?_; refine K.loadAll rfl rfl rfl .plain ?_; refine kca rfl rfl hE <| kas rfl <| RunK.nil <| LWP.seq <| rgN <| kmv rfl <| kne rfl rfl (r := false) rfl <| RunK.nil <| LWP.condF rfl ?_; refine LWP.skip ?_; refine LWP.seq <| LWP.block <| LWP.seq <| rgN <| kfa rfl rfl ?_; refine kl1 rfl rfl rfl <| kfa rfl rfl ?_; refine kl1 rfl rfl rfl <| kne rfl rfl (r := false) (bne_eq_false_iff_eq.2 c1) <| kmv rfl <| K.fieldAddr rfl rfl (.taken rfl rfl) ?_; refine K.loadOne rfl rfl rfl (.taken rfl rfl) ?_; refine K.fieldAddr rfl rfl (.taken rfl rfl) ?_; refine K.loadOne rfl rfl rfl (.taken rfl rfl) ?_; refine K.neq rfl rfl (r := false) (bne_eq_false_iff_eq.2 c2) (.taken rfl rfl) ?_); (refine kpf rfl rfl <| kmv rfl <| K.fieldAddr rfl rfl (.taken rfl rfl) ?_; refine K.loadOne rfl rfl rfl (.taken rfl rfl) ?_; refine K.fieldAddr rfl rfl (.taken rfl rfl) ?_; refine K.loadOne rfl rfl rfl (.taken rfl rfl) ?_; refine K.geq rfl rfl (decide_eq_false (by omega)) (.taken rfl rfl) ?_; refine kpf rfl rfl <| kas rfl <| RunK.nil <| LWP.condF rfl ?_; refine LWP.seq <| rgD mixed <| K.loadAll rfl rfl rfl .plain ?_; refine K.callMp [(1000001, 601)] (.sv (.one (.slc 601 0 p.rs.length))) [(601, some ⟨3, (int1 (p.rs.map Rl.nw)).map .val, false⟩)] (hN) rfl rfl (by exact trivial) rfl rfl rfl rfl rfl (by exact (.box rfl (Box.ren_vals _ _ _ _) .nil)) .plain <| K.loadAll rfl rfl rfl .plain ?_; refine K.callMp [(1000001, 602)] (.sv (.one (.slc 602 0 b.cs.length))) [(602, some ⟨3, (int1 (b.cs.map Cp.id)).map .val, false⟩)] (hI) rfl rfl (by exact trivial) rfl rfl rfl rfl rfl (by exact (.box rfl (Box.ren_vals _ _ _ _) .nil)) .plain <| K.callL [601, 602] rfl rfl rfl (hQ _ rfl rfl) .plain ?_; refine K.not rfl rfl .plain <| kmv rfl <| RunK.passed rfl rfl rfl <| RunK.passed rfl rfl rfl <| RunK.passed rfl rfl rfl <| RunK.passed rfl rfl rfl <| kpt rfl rfl <| kas rfl <| RunK.nil <| rgA ?_; refine LWP.condT rfl ?_; refine LWP.seq <| rgN <| kas rfl <| RunK.nil <| LWP.ret ?_))
    exact ⟨[_], ⟨rfl, trivial⟩, rfl⟩
  have hQ := fun (S : Nat → Option (Option Box)) h1 h2 => equal_lent X (S := S) (l := p.rs.map Rl.nw) (m := b.cs.map Cp.id) (j := 601) (k := 602) (n1 := p.rs.length) (n2 := b.cs.length) (e1 := 3) (e2 := 3) (row1 := false) (row2 := false) (by rw [List.length_map]; omega) (decide_eq_true d1) (List.length_map ..).symm (List.length_map ..).symm h1 h2
  cases d2 : p.rs.any (oldB (a.cs.map Cp.id)) with
  | true =>
    have hr : (if p.rs.length = b.cs.length then (if seqE (nwE a) (p.rs.zip b.cs) = 0 then seqE (ruC a) (p.rs.zip b.cs) else 6) else (6 : Int)) = 6 := by
      by_cases e1 : p.rs.length = b.cs.length
      · rw [if_pos e1]
        by_cases e2 : seqE (nwE a) (p.rs.zip b.cs) = 0
        · exact absurd (news_iff.2 ⟨e1, e2⟩).2 (by rw [d2]; decide)
        · rw [if_neg e2]
      · rw [if_neg e1]
    rw [hr]
    rw [d2] at hO
    ((refine LWP.seq <| rgN <| K.box rfl rfl rfl .plain <| K.box rfl rfl rfl .plain <| K.box rfl rfl rfl .plain <| kas rfl <| RunK.nil <| LWP.seq <| LWP.seq <| rgN <| K.loadAll rfl rfl rfl .plain ?_; refine K.loadAll rfl rfl rfl .plain ?_; refine K.loadAll rfl rfl rfl .plain ?_; refine kca rfl rfl hE <| kas rfl <| RunK.nil <| LWP.seq <| rgN <| kmv rfl <| kne rfl rfl (r := false) rfl <| RunK.nil <| LWP.condF rfl ?_; refine LWP.skip ?_; refine LWP.seq <| LWP.block <| LWP.seq <| rgN <| kfa rfl rfl ?_; refine kl1 rfl rfl rfl <| kfa rfl rfl ?_; refine kl1 rfl rfl rfl <| kne rfl rfl (r := false) (bne_eq_false_iff_eq.2 c1) <| kmv rfl <| K.fieldAddr rfl rfl (.taken rfl rfl) ?_; refine K.loadOne rfl rfl rfl (.taken rfl rfl) ?_; refine K.fieldAddr rfl rfl (.taken rfl rfl) ?_; refine K.loadOne rfl rfl rfl (.taken rfl rfl) ?_; refine K.neq rfl rfl (r := false) (bne_eq_false_iff_eq.2 c2) (.taken rfl rfl) ?_); (refine kpf rfl rfl <| kmv rfl <| K.fieldAddr rfl rfl (.taken rfl rfl) ?_; refine K.loadOne rfl rfl rfl (.taken rfl rfl) ?_; refine K.fieldAddr rfl rfl (.taken rfl rfl) ?_; refine K.loadOne rfl rfl rfl (.taken rfl rfl) ?_; refine K.geq rfl rfl (decide_eq_false (by omega)) (.taken rfl rfl) ?_; refine kpf rfl rfl <| kas rfl <| RunK.nil <| LWP.condF rfl ?_; refine LWP.seq <| rgD mixed <| K.loadAll rfl rfl rfl .plain ?_; refine K.callMp [(1000001, 601)] (.sv (.one (.slc 601 0 p.rs.length))) [(601, some ⟨3, (int1 (p.rs.map Rl.nw)).map .val, false⟩)] (hN) rfl rfl (by exact trivial) rfl rfl rfl rfl rfl (by exact (.box rfl (Box.ren_vals _ _ _ _) .nil)) .plain <| K.loadAll rfl rfl rfl .plain ?_; refine K.callMp [(1000001, 602)] (.sv (.one (.slc 602 0 b.cs.length))) [(602, some ⟨3, (int1 (b.cs.map Cp.id)).map .val, false⟩)] (hI) rfl rfl (by exact trivial) rfl rfl rfl rfl rfl (by exact (.box rfl (Box.ren_vals _ _ _ _) .nil)) .plain <| K.callL [601, 602] rfl rfl rfl (hQ _ rfl rfl) .plain ?_; refine K.not rfl rfl .plain <| kmv rfl <| K.loadAll rfl rfl rfl (.taken rfl rfl) ?_; refine K.loadAll rfl rfl rfl (.taken rfl rfl) ?_; refine gca rfl rfl hO rfl rfl <| K.not rfl rfl (.taken rfl rfl) ?_); (refine kpf rfl rfl <| kas rfl <| RunK.nil <| rgA ?_; refine LWP.condT rfl ?_; refine LWP.seq <| rgN <| kas rfl <| RunK.nil <| LWP.ret ?_))
    exact ⟨[_], ⟨rfl, trivial⟩, rfl⟩
  | false =>
  obtain ⟨e1, e2⟩ := news_iff.1 ⟨d1, d2⟩
  rw [if_pos e1, if_pos e2]
  rw [d2] at hO
  ((refine LWP.seq <| rgN <| K.box rfl rfl rfl .plain <| K.box rfl rfl rfl .plain <| K.box rfl rfl rfl .plain <| kas rfl <| RunK.nil <| LWP.seq <| LWP.seq <| rgN <| K.loadAll rfl rfl rfl .plain ?_; refine K.loadAll rfl rfl rfl .plain ?_; refine K.loadAll rfl rfl rfl .plain ?_; refine kca rfl rfl hE <| kas rfl <| RunK.nil <| LWP.seq <| rgN <| kmv rfl <| kne rfl rfl (r := false) rfl <| RunK.nil <| LWP.condF rfl ?_; refine LWP.skip ?_; refine LWP.seq <| LWP.block <| LWP.seq <| rgN <| kfa rfl rfl ?_; refine kl1 rfl rfl rfl <| kfa rfl rfl ?_; refine kl1 rfl rfl rfl <| kne rfl rfl (r := false) (bne_eq_false_iff_eq.2 c1) <| kmv rfl <| K.fieldAddr rfl rfl (.taken rfl rfl) ?_; refine K.loadOne rfl rfl rfl (.taken rfl rfl) ?_; refine K.fieldAddr rfl rfl (.taken rfl rfl) ?_; refine K.loadOne rfl rfl rfl (.taken rfl rfl) ?_; refine K.neq rfl rfl (r := false) (bne_eq_false_iff_eq.2 c2) (.taken rfl rfl) ?_); (refine kpf rfl rfl <| kmv rfl <| K.fieldAddr rfl rfl (.taken rfl rfl) ?_; refine K.loadOne rfl rfl rfl (.taken rfl rfl) ?_; refine K.fieldAddr rfl rfl (.taken rfl rfl) ?_; refine K.loadOne rfl rfl rfl (.taken rfl rfl) ?_; refine K.geq rfl rfl (decide_eq_false (by omega)) (.taken rfl rfl) ?_; refine kpf rfl rfl <| kas rfl <| RunK.nil <| LWP.condF rfl ?_; refine LWP.seq <| rgD mixed <| K.loadAll rfl rfl rfl .plain ?_; refine K.callMp [(1000001, 601)] (.sv (.one (.slc 601 0 p.rs.length))) [(601, some ⟨3, (int1 (p.rs.map Rl.nw)).map .val, false⟩)] (hN) rfl rfl (by exact trivial) rfl rfl rfl rfl rfl (by exact (.box rfl (Box.ren_vals _ _ _ _) .nil)) .plain <| K.loadAll rfl rfl rfl .plain ?_; refine K.callMp [(1000001, 602)] (.sv (.one (.slc 602 0 b.cs.length))) [(602, some ⟨3, (int1 (b.cs.map Cp.id)).map .val, false⟩)] (hI) rfl rfl (by exact trivial) rfl rfl rfl rfl rfl (by exact (.box rfl (Box.ren_vals _ _ _ _) .nil)) .plain <| K.callL [601, 602] rfl rfl rfl (hQ _ rfl rfl) .plain ?_; refine K.not rfl rfl .plain <| kmv rfl <| K.loadAll rfl rfl rfl (.taken rfl rfl) ?_; refine K.loadAll rfl rfl rfl (.taken rfl rfl) ?_; refine gca rfl rfl hO rfl rfl <| K.not rfl rfl (.taken rfl rfl) ?_); (refine kpf rfl rfl <| kas rfl <| RunK.nil <| rgA ?_; refine LWP.condF rfl ?_; refine LWP.skip ?_; refine LWP.seq <| LWP.seq <| rgN <| kfa rfl rfl ?_; refine kl1 rfl rfl rfl <| K.lenX rfl SliceT.h rfl .plain ?_; refine kmv rfl <| RunK.nil <| LWP.block ?_))
  clear hE hN hI hO hQ
  have hzl : (p.rs.zip b.cs).length = p.rs.length := by rw [List.length_zip]; omega
  refine LWP.loop (fun m σ => ∃ i : Nat, i ≤ p.rs.length ∧ m = p.rs.length - i ∧ (∀ j, 0 ≤ j → j < i → atE (ruC a) (p.rs.zip b.cs) j = 0) ∧ σ = ycSt a b p ad1 ad2 ad cap1 cap2 cap i X) p.rs.length
    ⟨ycSt a b p ad1 ad2 ad cap1 cap2 cap 0 X, Le.of (by exact ⟨rfl, rfl, rfl, rfl, rfl, trivial⟩) (by exact ⟨rfl, rfl, trivial⟩) (by exact rfl) (by exact rfl) (by repeat' (first | refine all_cons_true ?_ ?_ | rfl | exact bytes_inUse | exact vals_inUse | exact mid_inUse rfl)), 0, by omega, by omega, fun j _ hj => absurd hj (by omega), rfl⟩ ?_
  rintro m σ ⟨i, hi, rfl, hpre, rfl⟩
  by_cases hlt : i < p.rs.length
  case neg =>
    rw [show seqE (ruC a) (p.rs.zip b.cs) = 0 from firstE_none fun j h1 h2 => hpre j h1 (by omega)]
    (refine LWP.seq <| rgN <| klt rfl rfl (decide_eq_false (by omega)) <| RunK.nil <| LWP.seq <| LWP.condF rfl ?_; refine LWP.exit <| LWP.seq <| rgN <| kas rfl <| RunK.nil <| LWP.ret ?_)
    exact ⟨[_], ⟨rfl, trivial⟩, rfl⟩
  obtain ⟨r, hr⟩ : ∃ r, p.rs[i]? = some r := ⟨_, List.getElem?_eq_getElem hlt⟩
  obtain ⟨c, hc⟩ : ∃ c, b.cs[i]? = some c := ⟨_, List.getElem?_eq_getElem (by omega)⟩
  obtain ⟨rb, ro, rarr, rel, rfr, ead, ecap, rfl, hRX, hRz, hRc, _, _, _, hRE⟩ := hp.get hr
  have hior : ro + Int.toNat (i : Int) * 3 = ro + i * 3 := by simp
  (refine LWP.seq <| rgN <| klt rfl rfl (decide_eq_true (by omega)) <| RunK.nil <| LWP.seq <| LWP.condT rfl ?_; refine LWP.skip ?_; refine LWP.seq <| LWP.block <| LWP.seq <| rgN <| kmv rfl <| K.indexX rfl rfl SliceT.h (by omega) hior .plain <| K.loadXagg rfl hRX (by kernel_rfl) hRz hRc .plain <| K.alloc rfl .plain ?_; refine kas rfl <| K.storeAll rfl rfl rfl rfl rfl rfl .plain ?_; refine RunK.nil <| LWP.seq ?_)
  refine LWP.le (σ' := ⟨[(3, Lp 3), (4, Lp 4), (54, Lx (some ⟨rb, ro, none⟩) p.rs.length cap), (55, Ln .i64 (p.rs.length : Nat)), (56, Ln .i64 (i : Nat)), (8, Ln .i64 (i : Nat)), (9, Lp 9)], [v3B 27 9 r.nw r.old ead r.ex.length ecap, sxB 4 b.ver ad2 b.cs.length cap2, sxB 3 a.ver ad1 a.cs.length cap1], X⟩) (Le.of (by exact ⟨rfl, rfl, rfl, rfl, rfl, rfl, rfl, trivial⟩) (by exact ⟨rfl, rfl, rfl, trivial⟩) (by exact rfl) (by exact rfl) (by repeat' (first | refine all_cons_true ?_ ?_ | rfl | exact bytes_inUse | exact vals_inUse | exact mid_inUse rfl))) ?_
  repeat refine LWP.seq ?_
  refine LWP.meetL (fun σ => ∃ (Y : Nat → Option Obj) (w : Cp) (fad : Option Addr) (fcap : Nat), (∀ b x, X b = some x → Y b = some x) ∧ w.fs = flC a r.old ∧ FieldsIn Y fad w.fs ∧ σ = ⟨[(3, Lp 3), (4, Lp 4), (54, Lx (some ⟨rb, ro, none⟩) p.rs.length cap), (55, Ln .i64 (p.rs.length : Nat)), (56, Ln .i64 (i : Nat)), (8, Ln .i64 (i : Nat)), (9, Lp 9), (10, Lp 10)], [cpB 10 w fad fcap, v3B 27 9 r.nw r.old ead r.ex.length ecap, sxB 4 b.ver ad2 b.cs.length cap2, sxB 3 a.ver ad1 a.cs.length cap1], Y⟩) ?_ ?_
  · cases ho : findC a.cs r.old with
    | none =>
      have hf := pFind_no X a.ver ad1 cap1 a.cs r.old ha (by omega) (findC_no ho)
      (refine rgN <| K.loadAll rfl rfl rfl .plain ?_; refine kfa rfl rfl ?_; refine kl1 rfl rfl rfl <| kca rfl rfl hf <| kmv rfl <| kex rfl rfl <| kex rfl rfl <| K.alloc rfl .plain ?_; refine K.storeAll rfl rfl rfl rfl rfl rfl .plain ?_; refine kas rfl <| RunK.nil ?_)
      exact Leads.here (Le.of (by exact ⟨rfl, rfl, rfl, rfl, rfl, rfl, rfl, rfl, trivial⟩) (by exact ⟨rfl, rfl, rfl, rfl, trivial⟩) (by exact rfl) (by exact rfl) (by repeat' (first | refine all_cons_true ?_ ?_ | rfl | exact bytes_inUse | exact vals_inUse | exact mid_inUse rfl))) ⟨X, ⟨0, [], []⟩, none, 0, fun _ _ h => h, by unfold flC; rw [ho], fields_none rfl, rfl⟩
    | some o =>
      obtain ⟨k, hk, hid, hpr⟩ := findC_at ho
      have hw : o.fs = flC a r.old := by unfold flC; rw [ho]
      rcases pFind X a.ver ad1 cap1 a.cs r.old ha (by omega) (fun c hc => by have := sa2 c hc; omega) hpr hk hid with ⟨h0, hf⟩ | hf
      · have hl : o.fs.length = 0 := by rw [h0]; rfl
        (refine rgN <| K.loadAll rfl rfl rfl .plain ?_; refine kfa rfl rfl ?_; refine kl1 rfl rfl rfl <| kca rfl rfl hf <| kmv rfl <| kex rfl rfl <| kex rfl rfl <| K.alloc rfl .plain ?_; refine K.storeAll rfl rfl rfl rfl rfl rfl .plain ?_; refine kas rfl <| RunK.nil ?_)
        exact Leads.here (Le.of (by exact ⟨rfl, rfl, rfl, rfl, rfl, rfl, rfl, rfl, trivial⟩) (by exact ⟨rfl, rfl, rfl, rfl, trivial⟩) (by exact rfl) (by exact rfl) (by repeat' (first | refine all_cons_true ?_ ?_ | rfl | exact bytes_inUse | exact vals_inUse | exact mid_inUse rfl))) ⟨X, o, none, 0, fun _ _ h => h, hw, fields_none h0, rfl⟩
      · obtain ⟨_, _, _, _, _, _, _, _, _, _, _, _, _, _, hoF⟩ := ha.get hk
        (refine rgN <| K.loadAll rfl rfl rfl .plain ?_; refine kfa rfl rfl ?_; refine kl1 rfl rfl rfl <| K.callMp [(1000001, 601)] (.tup [SCs o 601, Sb true]) [fdB 601 o.fs] (hf) rfl rfl (by exact trivial) rfl rfl rfl rfl rfl (by exact (.box rfl (Box.ren_vals _ _ _ _) .nil)) .plain <| kmv rfl <| kex rfl rfl <| kex rfl rfl <| K.alloc rfl .plain ?_; refine K.storeAll rfl rfl rfl rfl rfl rfl .plain ?_; refine kas rfl <| RunK.nil ?_)
        refine Leads.le (σ' := ⟨[(3, Lp 3), (4, Lp 4), (54, Lx (some ⟨rb, ro, none⟩) p.rs.length cap), (55, Ln .i64 (p.rs.length : Nat)), (56, Ln .i64 (i : Nat)), (8, Ln .i64 (i : Nat)), (9, Lp 9), (10, Lp 10)], [(10, some ⟨24, [.val (.int .i64 o.id), .val (.string ⟨o.nm.toArray⟩)] ++ .slc 601 0 o.fs.length 3 :: [], false⟩), fdB 601 o.fs, v3B 27 9 r.nw r.old ead r.ex.length ecap, sxB 4 b.ver ad2 b.cs.length cap2, sxB 3 a.ver ad1 a.cs.length cap1], X⟩) (Le.of (by exact ⟨rfl, rfl, rfl, rfl, rfl, rfl, rfl, rfl, trivial⟩) (by exact ⟨rfl, rfl, rfl, rfl, rfl, trivial⟩) (by exact rfl) (by exact rfl) (by repeat' (first | refine all_cons_true ?_ ?_ | rfl | exact bytes_inUse | exact vals_inUse | exact mid_inUse rfl))) ?_
        refine Leads.freezeCell rfl rfl rfl rfl rfl rfl fun blk cp arr fr hn _ _ _ hsp => ?_
        obtain ⟨sp', hsp⟩ := hsp
        exact Leads.le (Le.of (by exact ⟨rfl, rfl, rfl, rfl, rfl, rfl, rfl, rfl, trivial⟩) (by exact ⟨rfl, rfl, rfl, rfl, trivial⟩) (by exact rfl) (by exact rfl) (by repeat' (first | refine all_cons_true ?_ ?_ | rfl | exact bytes_inUse | exact vals_inUse | exact mid_inUse rfl))) (Leads.done ⟨_, o, some ⟨blk, 0, none⟩, cp, withBlock_old hn, hw, fields_block (withBlock_at _ _ _) hsp hoF.small, rfl⟩)
  rintro σ ⟨Y, w, fad, fcap, hXY, hw, hF, rfl⟩
  have hwl : w.fs.length ≤ 12 := by
    rw [hw]
    unfold flC
    split
    · rename_i o ho; exact sa2 o (findC_some ho).1
    · exact Nat.zero_le _
  obtain ⟨cb, co, carr, cel, cfr, cad, ccap, rfl, hCX, hCz, hCc, _, _, _, hCF⟩ := hb.get hc
  have hioc : co + Int.toNat (i : Int) * 3 = co + i * 3 := by simp
  have hCY := hXY _ _ hCX
  have hadd : IntKind.i64.wrap ((i : Int) + 1) = ((i + 1 : Nat) : Int) := by rw [wrap_i64 (by omega)]; omega
  have hcl := sb2 c (List.mem_of_getElem? hc)
  have hq := yRule Y w c r fad cad ead fcap ccap ecap hF (hCF.mono hXY) (hRE.mono hXY) (by omega) (by omega) (fun q hq => by have := (sp.2 r (List.mem_of_getElem? hr)).2 q hq; omega)
  have hat : atE (ruC a) (p.rs.zip b.cs) i = ruE w.fs c.fs r := by rw [atE_at (zip_two hr hc), hw]; rfl
  by_cases he : ruE w.fs c.fs r = 0
  · rw [he] at hq
    (refine LWP.seq <| rgD mixed <| K.loadAll rfl rfl rfl .plain ?_; refine kfa rfl rfl ?_; refine kl1 rfl rfl rfl <| kmv rfl <| K.indexX rfl rfl SliceT.h (by omega) hioc .plain <| K.loadXagg rfl hCY (by kernel_rfl) hCz hCc .plain <| K.loadAll rfl rfl rfl .plain ?_; refine kca rfl rfl hq <| kas rfl <| RunK.nil <| rgA ?_; refine LWP.seq <| rgN <| kmv rfl <| kne rfl rfl (r := false) rfl <| RunK.nil <| LWP.condF rfl ?_; refine LWP.skip ?_; refine rgN <| kad rfl rfl hadd <| kmv rfl <| RunK.nil ?_)
    exact ⟨_, ycSt a b p ad1 (some ⟨cb, co, none⟩) (some ⟨rb, ro, none⟩) cap1 cap2 cap (i + 1) X, by omega, (by refine Le.trans ?_ (Le.drop hXY); exact Le.of (by exact ⟨rfl, rfl, rfl, rfl, rfl, trivial⟩) (by exact ⟨rfl, rfl, trivial⟩) (by exact rfl) (by exact rfl) (by repeat' (first | refine all_cons_true ?_ ?_ | rfl | exact bytes_inUse | exact vals_inUse | exact mid_inUse rfl))), i + 1, by omega, rfl, (fun j h0 hj => by
      by_cases e : j = i
      · rw [e, hat]; exact he
      · exact hpre j h0 (by omega)), rfl⟩
  · rw [show seqE (ruC a) (p.rs.zip b.cs) = ruE w.fs c.fs r from firstE_some hpre (Nat.zero_le _) (by omega) hat he]
    generalize ruE w.fs c.fs r = e at *
    (refine LWP.seq <| rgD mixed <| K.loadAll rfl rfl rfl .plain ?_; refine kfa rfl rfl ?_; refine kl1 rfl rfl rfl <| kmv rfl <| K.indexX rfl rfl SliceT.h (by omega) hioc .plain <| K.loadXagg rfl hCY (by kernel_rfl) hCz hCc .plain <| K.loadAll rfl rfl rfl .plain ?_; refine kca rfl rfl hq <| kas rfl <| RunK.nil <| rgA ?_; refine LWP.seq <| rgN <| kmv rfl <| kne rfl rfl (r := true) (bne_iff_ne.2 he) <| RunK.nil <| LWP.condT rfl ?_; refine LWP.seq <| rgN <| kmv rfl <| kas rfl <| RunK.nil <| LWP.ret ?_)
    exact ⟨[_], ⟨rfl, trivial⟩, rfl⟩
end Go.Proofs.YtnfbccfghgmfiaaGreat
end
section
namespace Go.Proofs.YtnfbccfghgmfiaaGreat
open Go Go.Lg Go.Lg.Fml Go.Lg.Fld Go.Lg.Arith
set_option maxRecDepth 100000
def scOk (cs : List Cp) : Prop := cs.length ≤ 30 ∧ ∀ c ∈ cs, c.fs.length ≤ 12
def scBig (cs : List Cp) : Prop := cs.length ≤ 4398046511104 ∧ ∀ c ∈ cs, c.fs.length ≤ 4398046511104
theorem scOk.big {cs : List Cp} (h : scOk cs) : scBig cs := ⟨by have := h.1; omega, fun c hc => by have := h.2 c hc; omega⟩
theorem scOk.names {cs : List Cp} (h : scOk cs) (hn : NamesIn cs) : NamesC cs := fun c hc => ⟨by have := h.2 c hc; omega, hn c hc⟩
variable (X : Nat → Option Obj)
theorem cFormula (c : Cp) (f : Fl) (l : List Ins) (cad ad : Option Addr) (ccap cap : Nat) (hF : FieldsIn X cad c.fs) (hin : InsIn X ad l) (hbig : l.length < 1152921504606846976) (hfl : c.fs.length < 4611686018427387904) :
    PSpec Tryz.prog X 11 [Cx c cad ccap, Fx f, Lx ad l.length cap] (Ln .i64 (fmE c.fs f l)) := yFormula X c f l cad ad ccap cap hF hin hbig hfl
theorem cCheck (a b : Sc) (p : Pg) (ad1 ad2 ad : Option Addr) (cap1 cap2 cap : Nat) (ha : CompsIn X ad1 a.cs) (hb : CompsIn X ad2 b.cs) (hp : RulesIn X ad p.rs) (na : NamesIn a.cs) (nb : NamesIn b.cs) (sa : scOk a.cs) (sb : scOk b.cs) (sp : p.rs.length ≤ 30 ∧ ∀ r ∈ p.rs, r.ex.length ≤ 12 ∧ ∀ c ∈ r.ex, c.length ≤ 80) :
    PSpec Tryz.prog X 15 [Sx a.ver ad1 a.cs.length cap1, Sx b.ver ad2 b.cs.length cap2, LPg p.va p.vb ad p.rs.length cap] (Ln .i64 (ckE a b p)) := yCheck X a b p ad1 ad2 ad cap1 cap2 cap ha hb hp (sa.names na) (sb.names nb) sa sb sp
theorem cPlain (a b : Sc) (ad1 ad2 : Option Addr) (cap1 cap2 : Nat) (ha : CompsIn X ad1 a.cs) (hb : CompsIn X ad2 b.cs) (na : NamesIn a.cs) (nb : NamesIn b.cs) (sa : scBig a.cs) (sb : scBig b.cs) :
    (b.cs = [] ∧ PSpec Tryz.prog X 13 [Sx a.ver ad1 a.cs.length cap1, Sx b.ver ad2 b.cs.length cap2] (.sv (SPg a.ver b.ver none 0 0))) ∨
    MSpec Tryz.prog X 13 [Sx a.ver ad1 a.cs.length cap1, Sx b.ver ad2 b.cs.length cap2] [] (.sv (.agg [.val (.int .i64 a.ver), .val (.int .i64 b.ver), .slc 1000001 0 b.cs.length 3])) [rlB 27 1000001 (plainP a b).rs] := .inr (yPlain X a b ad1 ad2 cap1 cap2 ha hb sa sb)
theorem formula_lent {S : Nat → Option (Option Box)} {c : Cp} {f : Fl} {l : List Ins} {cad : Option Addr} {ccap k : Nat} {e : TypeId} {t : TypeId} {r : Int} {row : Bool} (hF : FieldsIn X cad c.fs) (hs : ∀ x ∈ l, smallI x) (hbig : l.length < 1152921504606846976) (hfl : c.fs.length < 4611686018427387904) (he : fmE c.fs f l = r) (hk : S k = some (some ⟨e, (inssV l).map .val, row⟩)) :
    ∀ (Y : Nat → Option Obj) (us : List Value), (∀ b o, X b = some o → Y b = some o) → LentLs S Y [Cx c cad ccap, Fx f, .sv (.one (.slc k 0 l.length 6))] us → PSpec Tryz.prog Y 11 (us.map toLV) (Ln .i64 r) := by
  subst he
  intro Y us hY hL
  obtain ⟨u1, us1, rfl, ⟨av, rfl, a1, av1, rfl, g1, a2, av2, rfl, g2, a3, av3, rfl, g3, rfl⟩, u2, us2, rfl, ⟨bv, rfl, b1, bv1, rfl, f1, b2, bv2, rfl, f2, b3, bv3, rfl, f3, rfl⟩, u3, us3, rfl, h3, rfl⟩ := hL
  have g1 : a1 = .int .i64 c.id := g1
  have g2 : a2 = .string ⟨c.nm.toArray⟩ := g2
  have g3 : a3 = .slice cad c.fs.length ccap := g3
  have f1 : b1 = .string ⟨f.nm.toArray⟩ := f1
  have f2 : b2 = .int .i64 f.kind := f2
  have f3 : b3 = .int .i64 f.count := f3
  subst g1 g2 g3 f1 f2 f3
  obtain ⟨bb, blk, cap2, m, hk', rfl, hc, hfit, hB⟩ := h3
  rw [hk] at hk'
  simp only [Option.some.injEq] at hk'
  subst hk'
  obtain ⟨arr, fr, us', sp, hYb, hsz, harr, hv⟩ := hB
  have := hv (inssV l) rfl
  subst this
  exact cFormula Y c f l cad (some ⟨blk, 0, none⟩) ccap cap2 (hF.mono hY) (ins_in hYb hs ⟨sp, harr⟩) hbig hfl
end Go.Proofs.YtnfbccfghgmfiaaGreat
end
section
namespace Go.Lg.Fld
open Go Go.Lg
theorem comps_lit {Y : Nat → Option Obj} {blk : Nat} {arr : Array Value} {el : TypeId} {fr : Nat × Nat} {cs : List Cp} {cells sp : List Value} (hY : Y blk = some (.cells arr el fr)) (ha : arr.toList = rowsZ cs cells ++ sp) (hl : cells.length = cs.length) (hb : ∀ c ∈ cs, -9223372036854775808 ≤ c.id ∧ c.id < 9223372036854775808)
    (hf : ∀ (i : Nat) (c : Cp) (v : Value), cs[i]? = some c → cells[i]? = some v → ∃ fad fcap, v = .slice fad c.fs.length fcap ∧ FieldsIn Y fad c.fs) : CompsIn Y (some ⟨blk, 0, none⟩) cs := by
  refine ⟨fun i c hc => ?_, hb⟩
  have hi := (List.getElem?_eq_some_iff.1 hc).1
  obtain ⟨v, hv⟩ : ∃ v, cells[i]? = some v := ⟨_, List.getElem?_eq_getElem (by omega)⟩
  obtain ⟨fad, fcap, rfl, hF⟩ := hf i c v hc hv
  have hpre : (rowsZ (cs.take i) (cells.take i)).length = i * 3 := by rw [rowsZ_len (by rw [List.length_take, List.length_take, hl]), List.length_take, Nat.min_eq_left (by omega)]
  refine ⟨blk, 0, arr, el, fr, fad, fcap, rfl, hY, ?_, ?_, hF⟩
  · rw [← Array.length_toList, ha, List.length_append, rowsZ_len hl]; omega
  · rw [ha, rowsZ_split hc hv, Nat.zero_add, List.append_assoc, ← hpre, List.drop_left]; rfl
end Go.Lg.Fld
namespace Go.Proofs.YtnfbccfghgmfiaaGreat
open Go Go.Lg Go.Lg.Fml Go.Lg.Fld Go.Lg.Arith
set_option maxRecDepth 100000
def fl13a : List Fl := [⟨[120], 2, 1⟩, ⟨[114], 10, 1⟩]
def fl13b : List Fl := [⟨[120], 4, 1⟩]
def sc13a : Sc := ⟨1, [⟨1, [97], fl13a⟩]⟩
def sc13b : Sc := ⟨2, [⟨1, [97], fl13b⟩, ⟨2, [98], []⟩]⟩
theorem chk13a : chkE sc13a = 0 := by decide +kernel
theorem chk13b : chkE sc13b = 0 := by decide +kernel
theorem plain13 : plainP sc13a sc13b = ⟨1, 2, [⟨1, 1, [[⟨3, 0, 0, (false, 0)⟩]]⟩, ⟨2, 0, []⟩]⟩ := by decide +kernel
theorem ck13 : ckE sc13a sc13b (plainP sc13a sc13b) = 0 := plain_ok chk13a chk13b (by decide)
theorem ck13b : ckE sc13b sc13a (plainP sc13a sc13b) = 7 := by decide +kernel
theorem ck13n : ckE sc13a sc13b ⟨1, 2, []⟩ = 6 := by decide +kernel
theorem fm13a : fmE fl13a ⟨[120], 4, 1⟩ [⟨3, 1, 0, (false, 0)⟩] = 8 := by decide +kernel
theorem fm13b : fmE fl13a ⟨[120], 4, 1⟩ [⟨3, 2, 0, (false, 0)⟩] = 3 := by decide +kernel
variable (X : Nat → Option Obj)
abbrev c13a (c : CV) : List CV := [.val (.int .i64 1), .val (.string ⟨#[97]⟩), c]
abbrev c13b (c : CV) : List CV := [.val (.int .i64 1), .val (.string ⟨#[97]⟩), c, .val (.int .i64 2), .val (.string ⟨#[98]⟩), .val (.slice none 0 0)]
theorem two13_spec : MSpec Tryz.prog X 17 [] [] (.tup [.agg [.val (.int .i64 1), .slc 1000001 0 1 3], .agg [.val (.int .i64 2), .slc 1000003 0 2 3]])
    [(1000001, some ⟨24, c13a (.slc 1000002 0 2 3), false⟩), (1000002, some ⟨49, (flV fl13a).map .val, false⟩), (1000003, some ⟨24, c13b (.slc 1000004 0 1 3), false⟩), (1000004, some ⟨49, (flV fl13b).map .val, false⟩)] := by
  refine MSpec.intro Tryz.func17 rfl (by kernel_rfl) rfl rfl (by exact (by repeat' (first | refine all_cons_true ?_ ?_ | rfl | exact bytes_inUse | exact vals_inUse | exact mid_inUse rfl))) rfl rfl ?_
  intro C
  (refine LWP.seq <| rgN <| K.alloc rfl .plain ?_; refine K.alloc rfl .plain ?_; refine RunK.nil <| LWP.seq <| rgN <| K.build rfl rfl (by exact rfl) (by exact nl3 rfl rfl rfl rfl) .plain ?_; refine K.build rfl rfl (by exact rfl) (by exact nl3 rfl rfl rfl rfl) .plain ?_; refine K.buildSlc (zs := (List.replicate 2 [Value.string ⟨#[]⟩, .int .i64 0, .int .i64 0]).flatten) (sz := 3) (e := 49) (cs' := (flV fl13a).map .val) (by kernel_rfl) rfl rfl rfl rfl rfl rfl .plain <| K.build rfl rfl (by exact rfl) (by exact nl3 rfl rfl rfl rfl) .plain ?_; refine K.buildSlc (zs := (List.replicate 1 [Value.int .i64 0, .string ⟨#[]⟩, .slice none 0 0]).flatten) (sz := 3) (e := 24) (cs' := c13a (.slc 6 0 2 3)) (by kernel_rfl) rfl rfl rfl rfl rfl rfl .plain <| K.build rfl rfl (by exact rfl) (by exact nl2 rfl rfl rfl) .plain ?_; refine K.alloc rfl .plain ?_; refine K.storeAll rfl rfl rfl rfl rfl rfl .plain ?_; refine RunK.nil <| LWP.seq <| rgN <| K.build rfl rfl (by exact rfl) (by exact nl3 rfl rfl rfl rfl) .plain ?_; refine K.buildSlc (zs := (List.replicate 1 [Value.string ⟨#[]⟩, .int .i64 0, .int .i64 0]).flatten) (sz := 3) (e := 49) (cs' := (flV fl13b).map .val) (by kernel_rfl) rfl rfl rfl rfl rfl rfl .plain <| K.build rfl rfl (by exact rfl) (by exact nl3 rfl rfl rfl rfl) .plain ?_; refine K.build rfl rfl (by exact rfl) (by exact nl3 rfl rfl rfl rfl) .plain ?_; refine K.buildSlc (zs := (List.replicate 2 [Value.int .i64 0, .string ⟨#[]⟩, .slice none 0 0]).flatten) (sz := 3) (e := 24) (cs' := c13b (.slc 11 0 1 3)) (by kernel_rfl) rfl rfl rfl rfl rfl rfl .plain <| K.build rfl rfl (by exact rfl) (by exact nl2 rfl rfl rfl) .plain ?_; refine K.alloc rfl .plain ?_; refine K.storeAll rfl rfl rfl rfl rfl rfl .plain ?_; refine RunK.nil <| LWP.seq <| rgD mixed <| K.loadAll rfl rfl rfl .plain ?_; refine K.loadAll rfl rfl rfl .plain ?_; refine K.storeAll rfl rfl rfl rfl rfl rfl .plain ?_; refine K.storeAll rfl rfl rfl rfl rfl rfl .plain ?_; refine RunK.nil <| rgA ?_; refine LWP.ret ?_)
  exact ⟨[(1000001, 8), (1000002, 6), (1000003, 14), (1000004, 11)], ⟨[_, _], ⟨⟨_, _, rfl, rfl, rfl, .inl ⟨AggT.h, rfl⟩⟩, ⟨_, _, rfl, rfl, rfl, .inl ⟨AggT.h, rfl⟩⟩, trivial⟩, rfl⟩, (by repeat' (first | exact trivial | refine And.intro ⟨_, rfl, ?_⟩ ?_ | refine And.intro ⟨_, rfl⟩ ?_ | rfl | exact Box.ren_bytes _ _ _ _ | exact Box.ren_vals _ _ _ _ | exact Box.ren_mid rfl)), rfl, rfl⟩
end Go.Proofs.YtnfbccfghgmfiaaGreat
end
