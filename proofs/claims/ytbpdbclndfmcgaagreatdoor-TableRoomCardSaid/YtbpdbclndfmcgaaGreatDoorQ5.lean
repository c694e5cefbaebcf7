/- A piece of a proof over this program: contracts of its functions, and a logic to prove them by. -/
import Derived.Test.YtbpdbclndfmcgaaGreatDoorQ2
import Derived.Test.YtbpdbclndfmcgaaGreatDoorQ3
import Derived.Test.YtbpdbclndfmcgaaGreatDoorQ4
import Derived.Lib.ItoaLen
import Derived.Lib.AppendZerosOnto
section
namespace Go.Lg.Fld
open Go Go.Lg
def rowsZ : List Cp → List Value → List Value
  | c :: cs, v :: vs => .int .i64 c.id :: .string ⟨c.nm.toArray⟩ :: v :: rowsZ cs vs
  | _, _ => []
theorem rowsZ_len : ∀ {cs : List Cp} {cells : List Value}, cells.length = cs.length → (rowsZ cs cells).length = cs.length * 3
  | [], [], _ => rfl
  | c :: cs, v :: vs, h => by
    simp only [rowsZ, List.length_cons] at h ⊢
    rw [rowsZ_len (cs := cs) (cells := vs) (by omega)]; omega
  | [], _ :: _, h => by simp at h
  | _ :: _, [], h => by simp at h
theorem rowsZ_split : ∀ {cs : List Cp} {cells : List Value} {i : Nat} {c : Cp} {v : Value}, cs[i]? = some c → cells[i]? = some v →
    rowsZ cs cells = rowsZ (cs.take i) (cells.take i) ++ .int .i64 c.id :: .string ⟨c.nm.toArray⟩ :: v :: rowsZ (cs.drop (i + 1)) (cells.drop (i + 1))
  | [], _, i, c, v, h, _ => by simp at h
  | _ :: _, [], i, c, v, _, h => by simp at h
  | a :: cs, u :: vs, 0, c, v, h1, h2 => by
    simp only [List.getElem?_cons_zero, Option.some.injEq] at h1 h2
    subst h1 h2
    rfl
  | a :: cs, u :: vs, i + 1, c, v, h1, h2 => by
    simp only [List.getElem?_cons_succ] at h1 h2
    simp only [rowsZ, List.take_succ_cons, List.drop_succ_cons, List.cons_append]
    rw [rowsZ_split h1 h2]
def flV (fs : List Fl) : List Value := (fs.map Fl.vals).flatten
theorem flV_len (fs : List Fl) : (flV fs).length = fs.length * 3 := by
  unfold flV
  induction fs with
  | nil => rfl
  | cons f t ih => rw [List.map_cons, List.flatten_cons, List.length_append, ih, List.length_cons]; simp [Fl.vals]; omega
theorem flV_at : ∀ {fs : List Fl} {k : Nat} {f : Fl}, fs[k]? = some f → k * 3 + 3 ≤ (flV fs).length ∧ ((flV fs).drop (k * 3)).take 3 = f.vals
  | [], k, f, h => by simp at h
  | a :: t, 0, f, h => by
    simp only [List.getElem?_cons_zero, Option.some.injEq] at h
    subst h
    refine ⟨by rw [flV_len, List.length_cons]; omega, ?_⟩
    unfold flV
    rw [Nat.zero_mul, List.drop_zero, List.map_cons, List.flatten_cons, List.take_append_of_le_length (by simp [Fl.vals])]
    rfl
  | a :: t, k + 1, f, h => by
    obtain ⟨h1, h2⟩ := flV_at (fs := t) (k := k) (f := f) (by simpa using h)
    refine ⟨by rw [flV_len] at h1 ⊢; simp; omega, ?_⟩
    rw [← h2]
    unfold flV
    rw [List.map_cons, List.flatten_cons, show (k + 1) * 3 = a.vals.length + k * 3 by simp [Fl.vals]; omega, List.drop_length_add_append]
theorem fields_block {Y : Nat → Option Obj} {blk : Nat} {arr : Array Value} {el : TypeId} {fr : Nat × Nat} {fs : List Fl} {sp : List Value} (hY : Y blk = some (.cells arr el fr)) (ha : arr.toList = flV fs ++ sp)
    (hs : ∀ f ∈ fs, (-9223372036854775808 ≤ f.kind ∧ f.kind < 9223372036854775808) ∧ (-9223372036854775808 ≤ f.count ∧ f.count < 9223372036854775808)) : FieldsIn Y (some ⟨blk, 0, none⟩) fs := by
  refine ⟨fun k r hr => ?_, hs⟩
  rw [List.getElem?_map] at hr
  cases hf : fs[k]? with
  | none => rw [hf] at hr; cases hr
  | some f =>
    rw [hf] at hr
    simp only [Option.map_some, Option.some.injEq] at hr
    subst hr
    obtain ⟨h1, h2⟩ := flV_at hf
    refine ⟨blk, 0, arr, el, fr, rfl, hY, ?_, ?_⟩
    · rw [← Array.length_toList, ha, List.length_append]; omega
    · rw [ha, Nat.zero_add, List.drop_append_of_le_length (by omega), List.take_append_of_le_length (by rw [List.length_drop]; omega)]; exact h2
def InB (cs : List Cp) : Prop := ∀ c ∈ cs, (-9223372036854775808 ≤ c.id ∧ c.id < 9223372036854775808) ∧ ∀ f ∈ c.fs, (-9223372036854775808 ≤ f.kind ∧ f.kind < 9223372036854775808) ∧ (-9223372036854775808 ≤ f.count ∧ f.count < 9223372036854775808)
theorem leaf_in {Y : Nat → Option Obj} {v : Value} {el : TypeId} {fs : List Fl} (h : SliceZ Y v el 3 (flV fs))
    (hs : ∀ f ∈ fs, (-9223372036854775808 ≤ f.kind ∧ f.kind < 9223372036854775808) ∧ (-9223372036854775808 ≤ f.count ∧ f.count < 9223372036854775808)) : ∃ fad fcap, v = .slice fad fs.length fcap ∧ FieldsIn Y fad fs := by
  rcases h with ⟨h0, ad, cap, rfl⟩ | ⟨b, ⟨len, cap, arr, fr, rfl, h2, h3, h4, h5, sp, h6⟩, h0⟩
  · have hl : fs.length = 0 := by have := flV_len fs; rw [h0, List.length_nil] at this; omega
    have e : fs = [] := List.eq_nil_of_length_eq_zero hl
    subst e
    exact ⟨ad, cap, rfl, fun k r hr => (by simp at hr), fun f hf => (by cases hf)⟩
  · rw [flV_len] at h2
    have e : fs.length = len := by omega
    subst e
    exact ⟨some ⟨b, 0, none⟩, cap, rfl, fields_block h5 h6 hs⟩
theorem comps_block {Y : Nat → Option Obj} {blk : Nat} {arr : Array Value} {el fel : TypeId} {fr : Nat × Nat} {cs : List Cp} {cells sp : List Value} (hY : Y blk = some (.cells arr el fr)) (ha : arr.toList = rowsZ cs cells ++ sp) (hl : cells.length = cs.length) (hb : InB cs)
    (hf : ∀ (i : Nat) (c : Cp) (v : Value), cs[i]? = some c → cells[i]? = some v → SliceZ Y v fel 3 (flV c.fs)) : CompsIn Y (some ⟨blk, 0, none⟩) cs := by
  refine ⟨fun i c hc => ?_, fun c hc => (hb c hc).1⟩
  have hi := (List.getElem?_eq_some_iff.1 hc).1
  obtain ⟨v, hv⟩ : ∃ v, cells[i]? = some v := ⟨_, List.getElem?_eq_getElem (by omega)⟩
  obtain ⟨fad, fcap, rfl, hF⟩ := leaf_in (hf i c v hc hv) (hb c (List.mem_of_getElem? hc)).2
  have hpre : (rowsZ (cs.take i) (cells.take i)).length = i * 3 := by rw [rowsZ_len (by rw [List.length_take, List.length_take, hl]), List.length_take, Nat.min_eq_left (by omega)]
  refine ⟨blk, 0, arr, el, fr, fad, fcap, rfl, hY, ?_, ?_, hF⟩
  · rw [← Array.length_toList, ha, List.length_append, rowsZ_len hl]; omega
  · rw [ha, rowsZ_split hc hv, Nat.zero_add, List.append_assoc, ← hpre, List.drop_left]; rfl
end Go.Lg.Fld
namespace Go.Proofs.YtbpdbclndfmcgaaGreatDoor
open Go Go.Lg Go.Lg.Fld
set_option maxRecDepth 100000
def scR (cs : List Cp) : Rsc := ⟨fun ρ H => ∃ (arr : Array Value) (fr : Nat × Nat) (cells sp : List Value),
  H ρ.1 = some (.cells arr 86 fr) ∧ arr.size = ρ.2 ∧ arr.toList = rowsZ cs cells ++ sp ∧ Twigs (cutM H ρ.1) 125 3 [] cells (cs.map fun c => flV c.fs) ∧ InB cs⟩
abbrev scB (k : Nat) (cs : List Cp) : Nat × Option Box := (k, some ⟨0, [], .res (scR cs)⟩)
theorem scR_root (cs : List Cp) : ∀ ρ H, (scR cs).holds ρ H → ∃ vals el fr, H ρ.1 = some (.cells vals el fr) ∧ vals.size = ρ.2 := fun ρ H h => by
  obtain ⟨arr, fr, cells, sp, h1, h2, _⟩ := h
  exact ⟨arr, _, fr, h1, h2⟩
theorem scR_in {cs : List Cp} {blk m : Nat} {H Y : Nat → Option Obj} (h : (scR cs).holds (blk, m) H) (hY : ∀ b o, H b = some o → Y b = some o) : CompsIn Y (some ⟨blk, 0, none⟩) cs := by
  obtain ⟨arr, fr, cells, sp, h1, _, h3, G, hb⟩ := h
  have hl : cells.length = cs.length := by rw [G.len, List.length_map]
  refine comps_block (fel := 125) (hY _ _ h1) h3 hl hb fun i c v hc hv => ?_
  refine (G.at_ i v (flV c.fs) (by simp) hv (by rw [List.getElem?_map, hc]; rfl)).mono fun b hb' => ?_
  have hne := G.some_of (by simp) hv hb'
  cases hc2 : cutM H blk b with
  | none => exact absurd hc2 hne
  | some o => exact hY b o (cutM_some hc2).2
end Go.Proofs.YtbpdbclndfmcgaaGreatDoor
end
section
namespace Go.Lg.Fld
open Go Go.Lg
def nmM (ns : List (List UInt8)) : List (Value × Value) := ns.map fun l => (.string ⟨l.toArray⟩, .agg #[])
theorem nmM_at (ns : List (List UInt8)) (l : List UInt8) : At (nmM ns) (.string ⟨l.toArray⟩) (.agg #[]) (.agg #[]) := by
  by_cases h : l ∈ ns
  · exact .inl (List.mem_map.2 ⟨l, h, rfl⟩)
  · refine .inr ⟨fun p hp e => ?_, rfl⟩
    obtain ⟨l', hl', rfl⟩ := List.mem_map.1 hp
    simp only [Value.string.injEq, ByteArray.mk.injEq] at e
    exact h (by rw [show l = l' from (List.toArray_inj e.symm)]; exact hl')
theorem nmM_any (ns : List (List UInt8)) (l : List UInt8) (r : Bool) (hr : ns.any (fun m => m == l) = r) : r = true ↔ ∃ p ∈ nmM ns, p.1 = .string ⟨l.toArray⟩ := by
  subst hr
  rw [List.any_eq_true]
  constructor
  · rintro ⟨m, hm, he⟩
    rw [beq_iff_eq] at he
    subst he
    exact ⟨_, List.mem_map.2 ⟨m, hm, rfl⟩, rfl⟩
  · rintro ⟨p, hp, e⟩
    obtain ⟨l', hl', rfl⟩ := List.mem_map.1 hp
    simp only [Value.string.injEq, ByteArray.mk.injEq] at e
    exact ⟨l', hl', by rw [beq_iff_eq]; exact List.toArray_inj e⟩
theorem nmM_put {ns : List (List UInt8)} {l : List UInt8} (h : ns.any (fun m => m == l) = false) : Put (nmM ns) (.string ⟨l.toArray⟩) (.agg #[]) (nmM (ns ++ [l])) := by
  refine .inr ⟨fun p hp e => ?_, by unfold nmM; rw [List.map_append]; rfl⟩
  obtain ⟨l', hl', rfl⟩ := List.mem_map.1 hp
  simp only [Value.string.injEq, ByteArray.mk.injEq] at e
  rw [List.any_eq_false] at h
  exact h l' hl' (by rw [beq_iff_eq]; exact List.toArray_inj e)
end Go.Lg.Fld
namespace Go.Proofs.YtbpdbclndfmcgaaGreatDoor
open Go Go.Lg Go.Lg.Fld
set_option maxRecDepth 100000
variable (X : Nat → Option Obj)
theorem isLetter_spec (c : UInt8) : PSpec Tryz.prog X 115 [Ln .u8 (c.toNat : Nat)] (Lb (letB c)) := by
  refine PSpec.intro Tryz.func115 rfl (by kernel_rfl) rfl rfl ?_
  intro C
  unfold letB
  by_cases h : 97 ≤ c.toNat
  · rw [decide_eq_true h, Bool.true_and]
    (refine LWP.seq <| rgN <| kas rfl <| RunK.nil <| LWP.seq <| rgN <| kmv rfl <| K.leq rfl rfl (decide_eq_true (by omega)) .plain <| kmv rfl <| gmv rfl rfl rfl <| K.leq rfl rfl (r := decide (c.toNat ≤ 122)) (by rw [decide_eq_decide]; omega) (.taken rfl rfl) ?_; refine kpt rfl rfl <| kas rfl <| RunK.nil <| LWP.ret ?_)
    exact ⟨[_], ⟨rfl, trivial⟩, rfl⟩
  · rw [decide_eq_false h, Bool.false_and]
    (refine LWP.seq <| rgN <| kas rfl <| RunK.nil <| LWP.seq <| rgN <| kmv rfl <| K.leq rfl rfl (decide_eq_false (by omega)) .plain <| kmv rfl <| RunK.passed rfl rfl rfl <| RunK.passed rfl rfl rfl <| kpf rfl rfl <| kas rfl <| RunK.nil ?_; refine LWP.ret ?_)
    exact ⟨[_], ⟨rfl, trivial⟩, rfl⟩
theorem isDigit_spec (c : UInt8) : PSpec Tryz.prog X 116 [Ln .u8 (c.toNat : Nat)] (Lb (digB c)) := by
  refine PSpec.intro Tryz.func116 rfl (by kernel_rfl) rfl rfl ?_
  intro C
  unfold digB
  by_cases h : 48 ≤ c.toNat
  · rw [decide_eq_true h, Bool.true_and]
    (refine LWP.seq <| rgN <| kas rfl <| RunK.nil <| LWP.seq <| rgN <| kmv rfl <| K.leq rfl rfl (decide_eq_true (by omega)) .plain <| kmv rfl <| gmv rfl rfl rfl <| K.leq rfl rfl (r := decide (c.toNat ≤ 57)) (by rw [decide_eq_decide]; omega) (.taken rfl rfl) ?_; refine kpt rfl rfl <| kas rfl <| RunK.nil <| LWP.ret ?_)
    exact ⟨[_], ⟨rfl, trivial⟩, rfl⟩
  · rw [decide_eq_false h, Bool.false_and]
    (refine LWP.seq <| rgN <| kas rfl <| RunK.nil <| LWP.seq <| rgN <| kmv rfl <| K.leq rfl rfl (decide_eq_false (by omega)) .plain <| kmv rfl <| RunK.passed rfl rfl rfl <| RunK.passed rfl rfl rfl <| kpf rfl rfl <| kas rfl <| RunK.nil ?_; refine LWP.ret ?_)
    exact ⟨[_], ⟨rfl, trivial⟩, rfl⟩
theorem nmC_zero (l : List UInt8) : nmC l 0 = letB (l.getD 0 0) := by unfold nmC; simp
theorem nmC_more {l : List UInt8} {i : Nat} (h : nmC l 0 = true) : nmC l i = (letB (l.getD i 0) || digB (l.getD i 0)) := by
  unfold nmC
  by_cases e : i = 0
  · subst e
    rw [nmC_zero] at h
    rw [h]; simp
  · simp [e]
theorem pIsName (l : List UInt8) (r : Bool) (hr : nmB l = r) : PSpec Tryz.prog X 94 [Ls l] (Lb r) := by
  subst hr
  refine PSpec.intro Tryz.func94 rfl (by kernel_rfl) rfl rfl ?_
  intro C
  have hlen : (⟨l.toArray⟩ : ByteArray).size = l.length := rfl
  by_cases h1 : l.length < 1
  · rw [show nmB l = false by unfold nmB; rw [decide_eq_false (by omega)]; rfl]
    (refine LWP.seq <| rgN <| kas rfl <| RunK.nil <| LWP.seq <| LWP.seq <| rgN <| kmv rfl <| kln rfl <| klt rfl rfl (decide_eq_true (by rw [hlen]; omega)) <| kmv rfl <| RunK.passed rfl rfl rfl <| RunK.passed rfl rfl rfl <| RunK.passed rfl rfl rfl ?_; refine kpt rfl rfl <| kmv rfl <| RunK.passed rfl rfl rfl <| RunK.passed rfl rfl rfl <| RunK.passed rfl rfl rfl <| RunK.passed rfl rfl rfl <| kpt rfl rfl <| RunK.nil <| LWP.condT rfl ?_; refine LWP.seq <| rgN <| kas rfl <| RunK.nil <| LWP.ret ?_)
    exact ⟨[_], ⟨rfl, trivial⟩, rfl⟩
  by_cases h2 : 12 < l.length
  · rw [show nmB l = false by unfold nmB; rw [decide_eq_false (show ¬l.length ≤ 12 by omega)]; simp]
    (refine LWP.seq <| rgN <| kas rfl <| RunK.nil <| LWP.seq <| LWP.seq <| rgN <| kmv rfl <| kln rfl <| klt rfl rfl (decide_eq_false (by rw [hlen]; omega)) <| kmv rfl <| gmv rfl rfl rfl <| K.lenStr rfl (.taken rfl rfl) ?_; refine K.gtr rfl rfl (decide_eq_true (by rw [hlen]; omega)) (.taken rfl rfl) ?_; refine kpf rfl rfl <| kmv rfl <| RunK.passed rfl rfl rfl <| RunK.passed rfl rfl rfl <| RunK.passed rfl rfl rfl <| RunK.passed rfl rfl rfl <| kpt rfl rfl <| RunK.nil <| LWP.condT rfl ?_; refine LWP.seq <| rgN <| kas rfl <| RunK.nil <| LWP.ret ?_)
    exact ⟨[_], ⟨rfl, trivial⟩, rfl⟩
  obtain ⟨c0, hc0⟩ : ∃ c, l[0]? = some c := ⟨_, List.getElem?_eq_getElem (by omega)⟩
  have hget0 : (⟨l.toArray⟩ : ByteArray)[(0 : Int).toNat]? = some c0 := str_at hc0
  have hz : nmC l 0 = letB c0 := by rw [nmC_zero, getD_of hc0]
  have hL := isLetter_spec X c0
  cases h0 : letB c0 with
  | false =>
    rw [nmB_false (i := 0) (by omega) (hz.trans h0)]
    rw [h0] at hL
    (refine LWP.seq <| rgN <| kas rfl <| RunK.nil <| LWP.seq <| LWP.seq <| rgN <| kmv rfl <| kln rfl <| klt rfl rfl (decide_eq_false (by rw [hlen]; omega)) <| kmv rfl <| gmv rfl rfl rfl <| K.lenStr rfl (.taken rfl rfl) ?_; refine K.gtr rfl rfl (decide_eq_false (by rw [hlen]; omega)) (.taken rfl rfl) ?_; refine kpf rfl rfl <| kmv rfl <| gmv rfl rfl rfl <| K.indexStr rfl rfl (by omega) hget0 (.taken rfl rfl) ?_; refine gca rfl rfl (hL) rfl rfl <| K.not rfl rfl (.taken rfl rfl) ?_; refine kpf rfl rfl <| RunK.nil <| LWP.condT rfl ?_; refine LWP.seq <| rgN <| kas rfl <| RunK.nil <| LWP.ret ?_)
    exact ⟨[_], ⟨rfl, trivial⟩, rfl⟩
  | true =>
    have hz1 := hz.trans h0
    rw [h0] at hL
    (refine LWP.seq <| rgN <| kas rfl <| RunK.nil <| LWP.seq <| LWP.seq <| rgN <| kmv rfl <| kln rfl <| klt rfl rfl (decide_eq_false (by rw [hlen]; omega)) <| kmv rfl <| gmv rfl rfl rfl <| K.lenStr rfl (.taken rfl rfl) ?_; refine K.gtr rfl rfl (decide_eq_false (by rw [hlen]; omega)) (.taken rfl rfl) ?_; refine kpf rfl rfl <| kmv rfl <| gmv rfl rfl rfl <| K.indexStr rfl rfl (by omega) hget0 (.taken rfl rfl) ?_; refine gca rfl rfl (hL) rfl rfl <| K.not rfl rfl (.taken rfl rfl) ?_; refine kpf rfl rfl <| RunK.nil <| LWP.condF rfl ?_; refine LWP.skip ?_; refine LWP.seq <| LWP.seq <| rgN <| kmv rfl <| kln rfl <| kmv rfl <| RunK.nil <| LWP.block ?_)
    refine LWP.loop (fun m σ => ∃ i : Nat, i ≤ l.length ∧ m = l.length - i ∧ (∀ j, j < i → nmC l j = true) ∧ σ = ⟨[(0, Ls l), (19, Ln .i64 (l.length : Nat)), (20, Ln .i64 (i : Nat))], [], X⟩) l.length
      ⟨_, Le.of (by exact ⟨rfl, rfl, rfl, trivial⟩) (by exact trivial) (by exact rfl) (by exact rfl) (by exact rfl), 0, by omega, by omega, fun j hj => absurd hj (by omega), rfl⟩ ?_
    rintro m σ ⟨i, hi, rfl, hpre, rfl⟩
    by_cases hlt : i < l.length
    · obtain ⟨c, hc⟩ : ∃ c, l[i]? = some c := ⟨_, List.getElem?_eq_getElem hlt⟩
      have hN : nmC l i = (letB c || digB c) := by rw [nmC_more hz1, getD_of hc]
      have hget : (⟨l.toArray⟩ : ByteArray)[(i : Int).toNat]? = some c := str_at (by rw [Int.toNat_natCast]; exact hc)
      have hA := isLetter_spec X c
      have hB := isDigit_spec X c
      have key : nmC l i = true → ∀ j, j < i + 1 → nmC l j = true := fun hok j hj => by
        by_cases e : j = i
        · rw [e]; exact hok
        · exact hpre j (by omega)
      cases ha : letB c with
      | true =>
        rw [ha] at hA
        (refine LWP.seq <| rgN <| klt rfl rfl (decide_eq_true (by omega)) <| RunK.nil <| LWP.seq <| LWP.condT rfl ?_; refine LWP.skip ?_; refine LWP.seq <| LWP.block <| LWP.seq <| rgN <| kmv rfl <| kas rfl <| RunK.nil <| LWP.seq <| rgN <| kmv rfl <| kmv rfl <| K.indexStr rfl rfl (by omega) hget .plain <| kca rfl rfl (hA) <| K.not rfl rfl .plain ?_; refine kmv rfl <| RunK.passed rfl rfl rfl <| RunK.passed rfl rfl rfl <| RunK.passed rfl rfl rfl <| RunK.passed rfl rfl rfl <| RunK.passed rfl rfl rfl <| kpf rfl rfl <| RunK.nil <| LWP.condF rfl ?_; refine LWP.skip ?_; refine rgN <| kad rfl rfl (wrap_i64 (by omega)) <| kmv rfl <| RunK.nil ?_)
        exact ⟨_, _, by omega, Le.of (by exact ⟨rfl, rfl, rfl, trivial⟩) (by exact trivial) (by exact rfl) (by exact rfl) (by exact rfl), i + 1, by omega, rfl, key (by rw [hN, ha]; rfl), rfl⟩
      | false =>
        rw [ha] at hA
        cases hb : digB c with
        | true =>
          rw [hb] at hB
          (refine LWP.seq <| rgN <| klt rfl rfl (decide_eq_true (by omega)) <| RunK.nil <| LWP.seq <| LWP.condT rfl ?_; refine LWP.skip ?_; refine LWP.seq <| LWP.block <| LWP.seq <| rgN <| kmv rfl <| kas rfl <| RunK.nil <| LWP.seq <| rgN <| kmv rfl <| kmv rfl <| K.indexStr rfl rfl (by omega) hget .plain <| kca rfl rfl (hA) <| K.not rfl rfl .plain ?_; refine kmv rfl <| gmv rfl rfl rfl <| gmv rfl rfl rfl <| K.indexStr rfl rfl (by omega) hget (.taken rfl rfl) ?_; refine gca rfl rfl (hB) rfl rfl <| K.not rfl rfl (.taken rfl rfl) ?_; refine kpt rfl rfl <| RunK.nil <| LWP.condF rfl ?_; refine LWP.skip ?_; refine rgN <| kad rfl rfl (wrap_i64 (by omega)) <| kmv rfl <| RunK.nil ?_)
          exact ⟨_, _, by omega, Le.of (by exact ⟨rfl, rfl, rfl, trivial⟩) (by exact trivial) (by exact rfl) (by exact rfl) (by exact rfl), i + 1, by omega, rfl, key (by rw [hN, ha, hb]; rfl), rfl⟩
        | false =>
          rw [hb] at hB
          rw [nmB_false hlt (by rw [hN, ha, hb]; rfl)]
          (refine LWP.seq <| rgN <| klt rfl rfl (decide_eq_true (by omega)) <| RunK.nil <| LWP.seq <| LWP.condT rfl ?_; refine LWP.skip ?_; refine LWP.seq <| LWP.block <| LWP.seq <| rgN <| kmv rfl <| kas rfl <| RunK.nil <| LWP.seq <| rgN <| kmv rfl <| kmv rfl <| K.indexStr rfl rfl (by omega) hget .plain <| kca rfl rfl (hA) <| K.not rfl rfl .plain ?_; refine kmv rfl <| gmv rfl rfl rfl <| gmv rfl rfl rfl <| K.indexStr rfl rfl (by omega) hget (.taken rfl rfl) ?_; refine gca rfl rfl (hB) rfl rfl <| K.not rfl rfl (.taken rfl rfl) ?_; refine kpt rfl rfl <| RunK.nil <| LWP.condT rfl ?_; refine LWP.seq <| rgN <| kas rfl <| RunK.nil <| LWP.ret ?_)
          exact ⟨[_], ⟨rfl, trivial⟩, rfl⟩
    · rw [nmB_true (by omega) (by omega) (fun j hj => hpre j (by omega))]
      (refine LWP.seq <| rgN <| klt rfl rfl (decide_eq_false (by omega)) <| RunK.nil <| LWP.seq <| LWP.condF rfl ?_; refine LWP.exit <| LWP.seq <| rgN <| kas rfl <| RunK.nil <| LWP.ret ?_)
      exact ⟨[_], ⟨rfl, trivial⟩, rfl⟩
abbrev nmBx (k : Nat) (ns : List (List UInt8)) : Nat × Option Box := (k, some ⟨0, [], .res (mapR Tryz.prog 9 (nmM ns))⟩)
abbrev Lmp (k : Nat) : LV := .sv (.one (.mp k))
theorem take_ok (ns : List (List UInt8)) (l : List UInt8) (hl : l.length ≤ 9223372036854775807) (h1 : ns.any (fun m => m == l) = false) (h2 : nmB l = true) :
    MSpec Tryz.prog X 64 [Lmp 1000000, Ls l] [nmBx 1000000 ns] (Lb true) [nmBx 1000000 (ns ++ [l])] := by
  refine MSpec.intro Tryz.func64 rfl (by kernel_rfl) rfl rfl (by exact (by repeat' (first | refine all_cons_true ?_ ?_ | rfl | exact bytes_inUse | exact vals_inUse | exact mid_inUse rfl))) rfl rfl ?_
  intro C
  have hN := pIsName X l true h2
  have hkey : Go.keyOf Tryz.prog 9 (.string ⟨l.toArray⟩) = some (.string l) := by
    rw [WideMaps.keyOf_string_mk (by kernel_rfl) (by show l.length ≤ maxLen; unfold maxLen; omega)]
  (refine LWP.seq <| rgN <| kas rfl <| RunK.nil <| LWP.seq <| LWP.seq <| rgN <| kmv rfl <| kmv rfl <| K.lookupOk (et := 166) (.agg []) (v := .agg #[]) (z := .agg #[]) rfl rfl rfl (by kernel_rfl) (KL.str (by kernel_rfl)) hkey (by kernel_rfl) (nmM_at ns l) agg0_rel (nmM_any ns l false h1) .plain ?_; refine kmv rfl <| kex rfl rfl <| kex rfl rfl <| K.alloc rfl .plain ?_; refine K.storeAll rfl rfl rfl rfl rfl rfl .plain ?_; refine kas rfl <| RunK.nil <| LWP.seq <| rgN <| kmv rfl <| kmv rfl <| gmv rfl rfl rfl <| gca rfl rfl (hN) rfl rfl <| K.not rfl rfl (.taken rfl rfl) ?_; refine kpf rfl rfl <| RunK.nil <| LWP.condF rfl ?_; refine LWP.skip ?_; refine LWP.seq <| rgN <| kmv rfl <| kmv rfl <| K.build rfl rfl (by exact rfl) (by exact nl0 rfl) .plain ?_; refine K.mapPut (et := 166) (nmM (ns ++ [l])) rfl rfl rfl rfl (by kernel_rfl) (KL.str (by kernel_rfl)) hkey (nmM_put h1) .plain ?_; refine RunK.nil <| LWP.seq <| rgN <| kas rfl <| RunK.nil <| LWP.ret ?_)
  exact ⟨[], ⟨[_], ⟨rfl, trivial⟩, rfl⟩, (by repeat' (first | exact trivial | refine And.intro ⟨_, rfl, ?_⟩ ?_ | refine And.intro ⟨_, rfl⟩ ?_ | rfl | exact Box.ren_bytes _ _ _ _ | exact Box.ren_vals _ _ _ _ | exact Box.ren_mid rfl)), rfl, rfl⟩
theorem take_no (ns : List (List UInt8)) (l : List UInt8) (hl : l.length ≤ 9223372036854775807) (h : ns.any (fun m => m == l) = true ∨ nmB l = false) :
    MSpec Tryz.prog X 64 [Lmp 1000000, Ls l] [nmBx 1000000 ns] (Lb false) [nmBx 1000000 ns] := by
  refine MSpec.intro Tryz.func64 rfl (by kernel_rfl) rfl rfl (by exact (by repeat' (first | refine all_cons_true ?_ ?_ | rfl | exact bytes_inUse | exact vals_inUse | exact mid_inUse rfl))) rfl rfl ?_
  intro C
  have hkey : Go.keyOf Tryz.prog 9 (.string ⟨l.toArray⟩) = some (.string l) := by
    rw [WideMaps.keyOf_string_mk (by kernel_rfl) (by show l.length ≤ maxLen; unfold maxLen; omega)]
  cases h1 : ns.any (fun m => m == l) with
  | true =>
    (refine LWP.seq <| rgN <| kas rfl <| RunK.nil <| LWP.seq <| LWP.seq <| rgN <| kmv rfl <| kmv rfl <| K.lookupOk (et := 166) (.agg []) (v := .agg #[]) (z := .agg #[]) rfl rfl rfl (by kernel_rfl) (KL.str (by kernel_rfl)) hkey (by kernel_rfl) (nmM_at ns l) agg0_rel (nmM_any ns l true h1) .plain ?_; refine kmv rfl <| kex rfl rfl <| kex rfl rfl <| K.alloc rfl .plain ?_; refine K.storeAll rfl rfl rfl rfl rfl rfl .plain ?_; refine kas rfl <| RunK.nil <| LWP.seq <| rgN <| kmv rfl <| kmv rfl <| RunK.passed rfl rfl rfl <| RunK.passed rfl rfl rfl <| RunK.passed rfl rfl rfl <| kpt rfl rfl <| RunK.nil <| LWP.condT rfl ?_; refine LWP.seq <| rgN <| kas rfl <| RunK.nil <| LWP.ret ?_)
    exact ⟨[], ⟨[_], ⟨rfl, trivial⟩, rfl⟩, (by repeat' (first | exact trivial | refine And.intro ⟨_, rfl, ?_⟩ ?_ | refine And.intro ⟨_, rfl⟩ ?_ | rfl | exact Box.ren_bytes _ _ _ _ | exact Box.ren_vals _ _ _ _ | exact Box.ren_mid rfl)), rfl, rfl⟩
  | false =>
    have hN := pIsName X l false (h.resolve_left (by rw [h1]; decide))
    (refine LWP.seq <| rgN <| kas rfl <| RunK.nil <| LWP.seq <| LWP.seq <| rgN <| kmv rfl <| kmv rfl <| K.lookupOk (et := 166) (.agg []) (v := .agg #[]) (z := .agg #[]) rfl rfl rfl (by kernel_rfl) (KL.str (by kernel_rfl)) hkey (by kernel_rfl) (nmM_at ns l) agg0_rel (nmM_any ns l false h1) .plain ?_; refine kmv rfl <| kex rfl rfl <| kex rfl rfl <| K.alloc rfl .plain ?_; refine K.storeAll rfl rfl rfl rfl rfl rfl .plain ?_; refine kas rfl <| RunK.nil <| LWP.seq <| rgN <| kmv rfl <| kmv rfl <| gmv rfl rfl rfl <| gca rfl rfl (hN) rfl rfl <| K.not rfl rfl (.taken rfl rfl) ?_; refine kpf rfl rfl <| RunK.nil <| LWP.condT rfl ?_; refine LWP.seq <| rgN <| kas rfl <| RunK.nil <| LWP.ret ?_)
    exact ⟨[], ⟨[_], ⟨rfl, trivial⟩, rfl⟩, (by repeat' (first | exact trivial | refine And.intro ⟨_, rfl, ?_⟩ ?_ | refine And.intro ⟨_, rfl⟩ ?_ | rfl | exact Box.ren_bytes _ _ _ _ | exact Box.ren_vals _ _ _ _ | exact Box.ren_mid rfl)), rfl, rfl⟩
end Go.Proofs.YtbpdbclndfmcgaaGreatDoor
end
section
namespace Go.Lg.Fld
open Go Go.Lg
def NamesC (cs : List Cp) : Prop := ∀ c ∈ cs, c.fs.length < 4611686018427387904 ∧ c.nm.length ≤ 9223372036854775807 ∧ ∀ f ∈ c.fs, f.nm.length ≤ 9223372036854775807
theorem any_names {α : Type} (g : α → List UInt8) (l : List α) (i : Nat) (nm : List UInt8) : ((l.take i).map g).any (fun m => m == nm) = (l.take i).any (fun x => g x == nm) := by rw [List.any_map]; rfl
def fldsE (fs : List Fl) : Int := if firstE (fldE fs) 0 fs.length = 0 then layErr fs else 4
end Go.Lg.Fld
namespace Go.Proofs.YtbpdbclndfmcgaaGreatDoor
open Go Go.Lg Go.Lg.Fld
set_option maxRecDepth 100000
variable (X : Nat → Option Obj)
theorem checkFields_spec (fad : Option Addr) (fcap : Nat) (fs : List Fl) (hF : FieldsIn X fad fs) (hbig : fs.length < 4611686018427387904) (hnm : ∀ f ∈ fs, f.nm.length ≤ 9223372036854775807) (e : Int) (he : fldsE fs = e) :
    PSpec Tryz.prog X 65 [Lx fad fs.length fcap] (Ln .i64 e) := by
  subst he
  refine PSpec.intro Tryz.func65 rfl (by kernel_rfl) rfl rfl ?_
  intro C
  (refine LWP.seq <| rgN <| kas rfl <| RunK.nil <| LWP.seq <| rgN <| K.makeMap 9 rfl .plain ?_; refine kas rfl <| RunK.nil <| LWP.seq <| LWP.seq <| rgN <| kmv rfl <| K.lenX rfl SliceT.h rfl .plain ?_; refine kmv rfl <| RunK.nil <| LWP.block ?_)
  refine LWP.loop (fun m σ => ∃ i : Nat, i ≤ fs.length ∧ m = fs.length - i ∧ (∀ j, 0 ≤ j → j < i → fldE fs j = 0) ∧ σ = ⟨[(0, Lx fad fs.length fcap), (3, Lmp 6), (7, Lx fad fs.length fcap), (8, Ln .i64 (fs.length : Nat)), (9, Ln .i64 (i : Nat))], [nmBx 6 ((fs.take i).map Fl.nm)], X⟩) fs.length
    ⟨_, Le.of (by exact ⟨rfl, rfl, rfl, rfl, rfl, trivial⟩) (by exact ⟨rfl, trivial⟩) (by exact rfl) (by exact rfl) (by repeat' (first | refine all_cons_true ?_ ?_ | rfl | exact bytes_inUse | exact vals_inUse | exact mid_inUse rfl)), 0, by omega, by omega, fun j _ hj => absurd hj (by omega), rfl⟩ ?_
  rintro m σ ⟨i, hi, rfl, hpre, rfl⟩
  by_cases hlt : i < fs.length
  · obtain ⟨f, hf⟩ : ∃ f, fs[i]? = some f := ⟨_, List.getElem?_eq_getElem hlt⟩
    obtain ⟨blk, off, arr, el, fr, rfl, hX, hsz, hcells⟩ := hF.at hf
    have hio : off + Int.toNat (i : Int) * 3 = off + i * 3 := by simp
    have hE := fldE_at hf
    have hnl := hnm f (List.mem_of_getElem? hf)
    have hany := any_names Fl.nm fs i f.nm
    have hts : (fs.take (i + 1)).map Fl.nm = (fs.take i).map Fl.nm ++ [f.nm] := by rw [take_snoc hf, List.map_append]; rfl
    by_cases hbad : fldE fs i = 0
    · rw [hbad] at hE
      have h2 : nmB f.nm = true := by
        cases h : nmB f.nm with
        | true => rfl
        | false => rw [h, if_neg (by decide)] at hE; cases hE
      rw [if_pos h2] at hE
      have h1 : ((fs.take i).map Fl.nm).any (fun m => m == f.nm) = false := by
        rw [hany]
        cases h : (fs.take i).any (fun g => g.nm == f.nm) with
        | false => rfl
        | true => rw [h, if_pos rfl] at hE; cases hE
      have hT := take_ok X ((fs.take i).map Fl.nm) f.nm hnl h1 h2
      rw [← hts] at hT
      generalize (fs.take i).map Fl.nm = ns at *
      generalize hns : (fs.take (i + 1)).map Fl.nm = ns' at *
      (refine LWP.seq <| rgN <| klt rfl rfl (decide_eq_true (by omega)) <| RunK.nil <| LWP.seq <| LWP.condT rfl ?_; refine LWP.skip ?_; refine LWP.seq <| LWP.block <| LWP.seq <| rgN <| K.indexX rfl rfl SliceT.h (by omega) hio .plain <| K.loadXagg rfl hX (by kernel_rfl) hsz hcells .plain <| K.alloc rfl .plain ?_; refine K.storeAll rfl rfl rfl rfl rfl rfl .plain ?_; refine RunK.nil <| LWP.seq <| rgN <| kmv rfl <| kfa rfl rfl ?_; refine kl1 rfl rfl rfl <| K.callM [(1000000, 6)] [nmBx 6 ns'] (hT) rfl rfl (by exact (And.intro ⟨_, rfl, rfl⟩ trivial)) (by exact (all_cons_true rfl rfl)) rfl rfl rfl rfl (by exact (.box rfl rfl .nil)) .plain <| K.not rfl rfl .plain <| RunK.nil <| LWP.condF rfl ?_; refine LWP.skip ?_; refine rgN <| kad rfl rfl (wrap_i64 (by omega)) <| kmv rfl <| RunK.nil ?_)
      subst hns
      exact ⟨_, _, by omega, Le.of (by exact ⟨rfl, rfl, rfl, rfl, rfl, trivial⟩) (by exact ⟨rfl, trivial⟩) (by exact rfl) (by exact rfl) (by repeat' (first | refine all_cons_true ?_ ?_ | rfl | exact bytes_inUse | exact vals_inUse | exact mid_inUse rfl)), i + 1, by omega, rfl, (fun j h0 hj => by
        by_cases e : j = i
        · rw [e]; exact hbad
        · exact hpre j h0 (by omega)), rfl⟩
    · have h4 : fldE fs i = 4 := by
        rw [hE] at hbad ⊢
        cases h0 : nmB f.nm with
        | false => rfl
        | true =>
          rw [h0] at hbad
          cases h' : (fs.take i).any (fun g => g.nm == f.nm) with
          | true => rfl
          | false => rw [h'] at hbad; exact absurd rfl hbad
      have hno : ((fs.take i).map Fl.nm).any (fun m => m == f.nm) = true ∨ nmB f.nm = false := by
        rw [hany]
        rw [hE] at hbad
        cases h : nmB f.nm with
        | false => exact .inr rfl
        | true =>
          left
          rw [h, if_pos rfl] at hbad
          cases h' : (fs.take i).any (fun g => g.nm == f.nm) with
          | true => rfl
          | false => rw [h', if_neg (by decide)] at hbad; exact absurd rfl hbad
      have hfin : fldsE fs = 4 := by unfold fldsE; rw [firstE_some hpre (Nat.zero_le _) (by omega) h4 (by decide), if_neg (by decide)]
      rw [hfin]
      have hT := take_no X ((fs.take i).map Fl.nm) f.nm hnl hno
      generalize (fs.take i).map Fl.nm = ns at *
      (refine LWP.seq <| rgN <| klt rfl rfl (decide_eq_true (by omega)) <| RunK.nil <| LWP.seq <| LWP.condT rfl ?_; refine LWP.skip ?_; refine LWP.seq <| LWP.block <| LWP.seq <| rgN <| K.indexX rfl rfl SliceT.h (by omega) hio .plain <| K.loadXagg rfl hX (by kernel_rfl) hsz hcells .plain <| K.alloc rfl .plain ?_; refine K.storeAll rfl rfl rfl rfl rfl rfl .plain ?_; refine RunK.nil <| LWP.seq <| rgN <| kmv rfl <| kfa rfl rfl ?_; refine kl1 rfl rfl rfl <| K.callM [(1000000, 6)] [nmBx 6 ns] (hT) rfl rfl (by exact (And.intro ⟨_, rfl, rfl⟩ trivial)) (by exact (all_cons_true rfl rfl)) rfl rfl rfl rfl (by exact (.box rfl rfl .nil)) .plain <| K.not rfl rfl .plain <| RunK.nil <| LWP.condT rfl ?_; refine LWP.seq <| rgN <| kas rfl <| RunK.nil <| LWP.ret ?_)
      exact ⟨[_], ⟨rfl, trivial⟩, rfl⟩
  · have hfin : fldsE fs = layErr fs := by unfold fldsE; rw [if_pos (firstE_none fun j h0 hj => hpre j h0 (by omega))]
    rw [hfin]
    have hL := Check_spec X fad fcap fs hF hbig
    generalize layErr fs = e at *
    (refine LWP.seq <| rgN <| klt rfl rfl (decide_eq_false (by omega)) <| RunK.nil <| LWP.seq <| LWP.condF rfl ?_; refine LWP.exit <| LWP.seq <| rgN <| kmv rfl <| kca rfl rfl (hL) <| kas rfl <| RunK.nil <| LWP.ret ?_)
    exact ⟨[_], ⟨rfl, trivial⟩, rfl⟩
theorem cmpE_flds {cs : List Cp} {i : Nat} {c : Cp} (h : cs[i]? = some c) : cmpE cs i = if c.id < 1 ∨ 24 < c.id ∨ (0 < i ∧ c.id ≤ prevId cs i) then 1
    else if nmB c.nm = true then (if (cs.take i).any (fun g => g.nm == c.nm) = true then 4 else fldsE c.fs) else 4 := cmpE_at h
set_option maxHeartbeats 3200000 in
theorem pCheckBig (s : Sc) (ad : Option Addr) (cap : Nat) (hin : CompsIn X ad s.cs) (hbig : s.cs.length < 4611686018427387904) (hN : NamesC s.cs) (e : Int) (he : chkE s = e) : PSpec Tryz.prog X 36 [Sx s.ver ad s.cs.length cap] (Ln .i64 e) := by
  subst he
  obtain ⟨ver, cs⟩ := s
  simp only at hin hbig hN ⊢
  refine PSpec.intro Tryz.func36 rfl (by kernel_rfl) rfl rfl ?_
  intro C
  unfold chkE
  by_cases hv1 : ver < 1
  · rw [if_pos (.inl hv1)]
    (refine LWP.seq <| rgN <| K.box rfl rfl rfl .plain <| kas rfl <| RunK.nil <| LWP.seq <| LWP.seq <| rgN <| kfa rfl rfl ?_; refine kl1 rfl rfl rfl <| klt rfl rfl (decide_eq_true hv1) <| kmv rfl <| RunK.passed rfl rfl rfl <| RunK.passed rfl rfl rfl <| RunK.passed rfl rfl rfl <| kpt rfl rfl <| RunK.nil <| LWP.condT rfl ?_; refine LWP.seq <| rgN <| kas rfl <| RunK.nil <| LWP.ret ?_)
    exact ⟨[_], ⟨rfl, trivial⟩, rfl⟩
  by_cases hv2 : 1073741824 < ver
  · rw [if_pos (.inr hv2)]
    (refine LWP.seq <| rgN <| K.box rfl rfl rfl .plain <| kas rfl <| RunK.nil <| LWP.seq <| LWP.seq <| rgN <| kfa rfl rfl ?_; refine kl1 rfl rfl rfl <| klt rfl rfl (decide_eq_false hv1) <| kmv rfl <| K.fieldAddr rfl rfl (.taken rfl rfl) ?_; refine K.loadOne rfl rfl rfl (.taken rfl rfl) ?_; refine K.gtr rfl rfl (decide_eq_true hv2) (.taken rfl rfl) ?_; refine kpf rfl rfl <| RunK.nil <| LWP.condT rfl ?_; refine LWP.seq <| rgN <| kas rfl <| RunK.nil <| LWP.ret ?_)
    exact ⟨[_], ⟨rfl, trivial⟩, rfl⟩
  rw [if_neg (show ¬(ver < 1 ∨ 1073741824 < ver) by omega)]
  (refine LWP.seq <| rgN <| K.box rfl rfl rfl .plain <| kas rfl <| RunK.nil <| LWP.seq <| LWP.seq <| rgN <| kfa rfl rfl ?_; refine kl1 rfl rfl rfl <| klt rfl rfl (decide_eq_false hv1) <| kmv rfl <| K.fieldAddr rfl rfl (.taken rfl rfl) ?_; refine K.loadOne rfl rfl rfl (.taken rfl rfl) ?_; refine K.gtr rfl rfl (decide_eq_false hv2) (.taken rfl rfl) ?_; refine kpf rfl rfl <| RunK.nil <| LWP.condF rfl ?_; refine LWP.skip ?_; refine LWP.seq <| rgN <| K.makeMap 9 rfl .plain ?_; refine kas rfl <| kas rfl <| RunK.nil <| LWP.seq <| LWP.seq <| rgN <| kfa rfl rfl ?_; refine kl1 rfl rfl rfl <| K.lenX rfl SliceT.h rfl .plain ?_; refine kmv rfl <| RunK.nil <| LWP.block ?_)
  refine LWP.loop (fun m σ => ∃ (i : Nat) (last : Int), i ≤ cs.length ∧ m = cs.length - i ∧ (∀ j, 0 ≤ j → j < i → cmpE cs j = 0) ∧ (∀ x : Int, x ≤ last ↔ (x < 1 ∨ (0 < i ∧ x ≤ prevId cs i))) ∧ σ = ⟨[(3, Ln .i64 last), (4, Lmp 16), (18, Lx ad cs.length cap), (19, Ln .i64 (cs.length : Nat)), (20, Ln .i64 (i : Nat))], [nmBx 16 ((cs.take i).map Cp.nm)], X⟩) cs.length
    ⟨_, Le.of (by exact ⟨rfl, rfl, rfl, rfl, rfl, trivial⟩) (by exact ⟨rfl, trivial⟩) (by exact rfl) (by exact rfl) (by repeat' (first | refine all_cons_true ?_ ?_ | rfl | exact bytes_inUse | exact vals_inUse | exact mid_inUse rfl)), 0, 0, by omega, by omega, fun j _ hj => absurd hj (by omega), fun x => by omega, rfl⟩ ?_
  rintro m σ ⟨i, last, hi, rfl, hpre, hlast, rfl⟩
  by_cases hlt : i < cs.length
  · obtain ⟨c, hc⟩ : ∃ c, cs[i]? = some c := ⟨_, List.getElem?_eq_getElem hlt⟩
    obtain ⟨blk, off, arr, el, fr, fad, fcap, rfl, hX, hsz, hcs, _, _, _, hF⟩ := hin.get hc
    have hio : off + Int.toNat (i : Int) * 3 = off + i * 3 := by simp
    have hE := cmpE_flds hc
    obtain ⟨hfb, hnl, hfn⟩ := hN c (List.mem_of_getElem? hc)
    have fin : ∀ e, cmpE cs i = e → e ≠ 0 → firstE (cmpE cs) 0 cs.length = e := fun e he h0 => firstE_some hpre (Nat.zero_le _) (by omega) he h0
    have hany := any_names Cp.nm cs i c.nm
    have hts : (cs.take (i + 1)).map Cp.nm = (cs.take i).map Cp.nm ++ [c.nm] := by rw [take_snoc hc, List.map_append]; rfl
    (refine LWP.seq <| rgN <| klt rfl rfl (decide_eq_true (by omega)) <| RunK.nil <| LWP.seq <| LWP.condT rfl ?_; refine LWP.skip ?_; refine LWP.seq <| LWP.block <| LWP.seq <| rgN <| K.indexX rfl rfl SliceT.h (by omega) hio .plain <| K.loadXagg rfl hX (by kernel_rfl) hsz hcs .plain <| K.alloc rfl .plain ?_; refine K.storeAll rfl rfl rfl rfl rfl rfl .plain ?_; refine RunK.nil <| LWP.seq <| LWP.seq ?_)
    refine LWP.le (σ' := ⟨[(3, Ln .i64 last), (4, Lmp 16), (6, Lp 6), (18, Lx (some ⟨blk, off, none⟩) cs.length cap), (19, Ln .i64 (cs.length : Nat)), (20, Ln .i64 (i : Nat))], [nmBx 16 ((cs.take i).map Cp.nm), cpB 6 c fad fcap], X⟩) (Le.of (by exact ⟨rfl, rfl, rfl, rfl, rfl, rfl, trivial⟩) (by exact ⟨rfl, rfl, trivial⟩) (by exact rfl) (by exact rfl) (by repeat' (first | refine all_cons_true ?_ ?_ | rfl | exact bytes_inUse | exact vals_inUse | exact mid_inUse rfl))) ?_
    by_cases hq1 : c.id ≤ last
    · rw [if_pos (by rcases (hlast c.id).1 hq1 with h | h; exact .inl h; exact .inr (.inr h))] at hE
      rw [fin 1 hE (by decide)]
      (refine rgN <| kfa rfl rfl ?_; refine kl1 rfl rfl rfl <| kmv rfl <| K.leq rfl rfl (decide_eq_true hq1) .plain <| kmv rfl <| RunK.passed rfl rfl rfl <| RunK.passed rfl rfl rfl <| RunK.passed rfl rfl rfl <| kpt rfl rfl <| RunK.nil <| LWP.condT rfl ?_; refine LWP.seq <| rgN <| kas rfl <| RunK.nil <| LWP.ret ?_)
      exact ⟨[_], ⟨rfl, trivial⟩, rfl⟩
    by_cases hq2 : 24 < c.id
    · rw [if_pos (.inr (.inl hq2))] at hE
      rw [fin 1 hE (by decide)]
      (refine rgN <| kfa rfl rfl ?_; refine kl1 rfl rfl rfl <| kmv rfl <| K.leq rfl rfl (decide_eq_false hq1) .plain <| kmv rfl <| K.fieldAddr rfl rfl (.taken rfl rfl) ?_; refine K.loadOne rfl rfl rfl (.taken rfl rfl) ?_; refine K.gtr rfl rfl (decide_eq_true hq2) (.taken rfl rfl) ?_; refine kpf rfl rfl <| RunK.nil <| LWP.condT rfl ?_; refine LWP.seq <| rgN <| kas rfl <| RunK.nil <| LWP.ret ?_)
      exact ⟨[_], ⟨rfl, trivial⟩, rfl⟩
    have hq3 : ¬(c.id < 1 ∨ (0 < i ∧ c.id ≤ prevId cs i)) := fun h => hq1 ((hlast c.id).2 h)
    rw [if_neg (show ¬(c.id < 1 ∨ 24 < c.id ∨ (0 < i ∧ c.id ≤ prevId cs i)) from fun h => by rcases h with h | h | h; exact hq3 (.inl h); exact hq2 h; exact hq3 (.inr h))] at hE
    by_cases hno : ((cs.take i).map Cp.nm).any (fun m => m == c.nm) = true ∨ nmB c.nm = false
    · have h4 : cmpE cs i = 4 := by
        rw [hE]
        rw [hany] at hno
        rcases hno with h | h
        · rw [h]; simp
        · rw [h]; simp
      rw [fin 4 h4 (by decide)]
      have hT := take_no X ((cs.take i).map Cp.nm) c.nm hnl hno
      generalize (cs.take i).map Cp.nm = ns at *
      (refine rgN <| kfa rfl rfl ?_; refine kl1 rfl rfl rfl <| kmv rfl <| K.leq rfl rfl (decide_eq_false hq1) .plain <| kmv rfl <| K.fieldAddr rfl rfl (.taken rfl rfl) ?_; refine K.loadOne rfl rfl rfl (.taken rfl rfl) ?_; refine K.gtr rfl rfl (decide_eq_false hq2) (.taken rfl rfl) ?_; refine kpf rfl rfl <| RunK.nil <| LWP.condF rfl ?_; refine LWP.skip ?_; refine LWP.seq <| rgN <| kfa rfl rfl ?_; refine kl1 rfl rfl rfl <| kas rfl <| RunK.nil <| LWP.seq <| LWP.seq <| rgN <| kmv rfl <| kfa rfl rfl ?_; refine kl1 rfl rfl rfl <| K.callM [(1000000, 16)] [nmBx 16 ns] (hT) rfl rfl (by exact (And.intro ⟨_, rfl, rfl⟩ trivial)) (by exact (all_cons_true rfl rfl)) rfl rfl rfl rfl (by exact (.box rfl rfl .nil)) .plain <| K.not rfl rfl .plain <| RunK.nil <| LWP.condT rfl ?_; refine LWP.seq <| rgN <| kas rfl <| RunK.nil <| LWP.ret ?_)
      exact ⟨[_], ⟨rfl, trivial⟩, rfl⟩
    have h1 : ((cs.take i).map Cp.nm).any (fun m => m == c.nm) = false := by
      cases h : ((cs.take i).map Cp.nm).any (fun m => m == c.nm) with
      | false => rfl
      | true => exact absurd (.inl h) hno
    have h2 : nmB c.nm = true := by
      cases h : nmB c.nm with
      | true => rfl
      | false => exact absurd (.inr h) hno
    rw [if_pos h2, ← hany, h1, if_neg (by decide)] at hE
    have hT := take_ok X ((cs.take i).map Cp.nm) c.nm hnl h1 h2
    rw [← hts] at hT
    have hCF := checkFields_spec X fad fcap c.fs hF hfb hfn (fldsE c.fs) rfl
    generalize (cs.take i).map Cp.nm = ns at *
    generalize hns : (cs.take (i + 1)).map Cp.nm = ns' at *
    by_cases hz : fldsE c.fs = 0
    · rw [hz] at hCF hE
      (refine rgN <| kfa rfl rfl ?_; refine kl1 rfl rfl rfl <| kmv rfl <| K.leq rfl rfl (decide_eq_false hq1) .plain <| kmv rfl <| K.fieldAddr rfl rfl (.taken rfl rfl) ?_; refine K.loadOne rfl rfl rfl (.taken rfl rfl) ?_; refine K.gtr rfl rfl (decide_eq_false hq2) (.taken rfl rfl) ?_; refine kpf rfl rfl <| RunK.nil <| LWP.condF rfl ?_; refine LWP.skip ?_; refine LWP.seq <| rgN <| kfa rfl rfl ?_; refine kl1 rfl rfl rfl <| kas rfl <| RunK.nil <| LWP.seq <| LWP.seq <| rgN <| kmv rfl <| kfa rfl rfl ?_; refine kl1 rfl rfl rfl <| K.callM [(1000000, 16)] [nmBx 16 ns'] (hT) rfl rfl (by exact (And.intro ⟨_, rfl, rfl⟩ trivial)) (by exact (all_cons_true rfl rfl)) rfl rfl rfl rfl (by exact (.box rfl rfl .nil)) .plain <| K.not rfl rfl .plain <| RunK.nil <| LWP.condF rfl ?_; refine LWP.skip ?_; refine LWP.seq <| rgN <| kfa rfl rfl ?_; refine kl1 rfl rfl rfl <| kca rfl rfl (hCF) <| kas rfl <| RunK.nil <| LWP.seq <| rgN <| kmv rfl <| kne rfl rfl ((bne_eq_false_iff_eq.2 (by omega))) <| RunK.nil <| LWP.condF rfl ?_; refine LWP.skip ?_; refine rgN <| kad rfl rfl (wrap_i64 (by omega)) <| kmv rfl <| RunK.nil ?_)
      subst hns
      exact ⟨_, _, by omega, Le.of (by exact ⟨rfl, rfl, rfl, rfl, rfl, trivial⟩) (by exact ⟨rfl, trivial⟩) (by exact rfl) (by exact rfl) (by repeat' (first | refine all_cons_true ?_ ?_ | rfl | exact bytes_inUse | exact vals_inUse | exact mid_inUse rfl)), i + 1, c.id, by omega, rfl, (fun j h0 hj => by
        by_cases e : j = i
        · rw [e]; exact hE
        · exact hpre j h0 (by omega)), (fun x => by
        have hp : prevId cs (i + 1) = c.id := by unfold prevId; rw [Nat.add_sub_cancel, hc]; rfl
        rw [hp]; omega), rfl⟩
    · rw [fin _ hE hz]
      have hne : (fldsE c.fs != 0) = true := by rw [bne_iff_ne]; exact hz
      generalize fldsE c.fs = e at *
      (refine rgN <| kfa rfl rfl ?_; refine kl1 rfl rfl rfl <| kmv rfl <| K.leq rfl rfl (decide_eq_false hq1) .plain <| kmv rfl <| K.fieldAddr rfl rfl (.taken rfl rfl) ?_; refine K.loadOne rfl rfl rfl (.taken rfl rfl) ?_; refine K.gtr rfl rfl (decide_eq_false hq2) (.taken rfl rfl) ?_; refine kpf rfl rfl <| RunK.nil <| LWP.condF rfl ?_; refine LWP.skip ?_; refine LWP.seq <| rgN <| kfa rfl rfl ?_; refine kl1 rfl rfl rfl <| kas rfl <| RunK.nil <| LWP.seq <| LWP.seq <| rgN <| kmv rfl <| kfa rfl rfl ?_; refine kl1 rfl rfl rfl <| K.callM [(1000000, 16)] [nmBx 16 ns'] (hT) rfl rfl (by exact (And.intro ⟨_, rfl, rfl⟩ trivial)) (by exact (all_cons_true rfl rfl)) rfl rfl rfl rfl (by exact (.box rfl rfl .nil)) .plain <| K.not rfl rfl .plain <| RunK.nil <| LWP.condF rfl ?_; refine LWP.skip ?_; refine LWP.seq <| rgN <| kfa rfl rfl ?_; refine kl1 rfl rfl rfl <| kca rfl rfl (hCF) <| kas rfl <| RunK.nil <| LWP.seq <| rgN <| kmv rfl <| kne rfl rfl hne <| RunK.nil <| LWP.condT rfl ?_; refine LWP.seq <| rgN <| kmv rfl <| kas rfl <| RunK.nil <| LWP.ret ?_)
      exact ⟨[_], ⟨rfl, trivial⟩, rfl⟩
  · rw [show firstE (cmpE cs) 0 cs.length = 0 from firstE_none fun j h0 hj => hpre j h0 (by omega)]
    (refine LWP.seq <| rgN <| klt rfl rfl (decide_eq_false (by omega)) <| RunK.nil <| LWP.seq <| LWP.condF rfl ?_; refine LWP.exit <| LWP.seq <| rgN <| kas rfl <| RunK.nil <| LWP.ret ?_)
    exact ⟨[_], ⟨rfl, trivial⟩, rfl⟩
end Go.Proofs.YtbpdbclndfmcgaaGreatDoor
end
section
namespace Go.Lg.Fld
open Go Go.Lg
theorem fields_reads {X : Nat → Option Obj} {ad : Option Addr} {fs : List Fl} (h : FieldsIn X ad fs) : ReadsX X ad (flV fs) := ⟨fun j u hj => by
  have hjl := (List.getElem?_eq_some_iff.1 hj).1
  rw [flV_len] at hjl
  obtain ⟨f, hf⟩ : ∃ f, fs[j / 3]? = some f := ⟨_, List.getElem?_eq_getElem (by omega)⟩
  obtain ⟨blk, off, arr, el, fr, rfl, hX, hsz, hcs⟩ := h.rows (j / 3) f.vals (by rw [List.getElem?_map, hf]; rfl)
  refine ⟨blk, off, arr, el, fr, rfl, hX, ?_⟩
  obtain ⟨h1, h2⟩ := flV_at hf
  have h3 : ((flV fs).drop (j / 3 * 3)).take 3 = (arr.toList.drop (off + j / 3 * 3)).take 3 := by rw [h2, hcs]
  have h4 : (((flV fs).drop (j / 3 * 3)).take 3)[j % 3]? = ((arr.toList.drop (off + j / 3 * 3)).take 3)[j % 3]? := by rw [h3]
  rw [List.getElem?_take, List.getElem?_take, if_pos (Nat.mod_lt _ (by omega)), if_pos (Nat.mod_lt _ (by omega)), List.getElem?_drop, List.getElem?_drop, show j / 3 * 3 + j % 3 = j by omega, show off + j / 3 * 3 + j % 3 = off + j by omega, hj, Array.getElem?_toList] at h4
  exact h4.symm⟩
theorem flV_one (fs : List Fl) : ∀ u ∈ flV fs, u.oneCell' = true := fun u hu => by
  unfold flV at hu
  rw [List.mem_flatten] at hu
  obtain ⟨l, hl, hu⟩ := hu
  obtain ⟨f, _, rfl⟩ := List.mem_map.1 hl
  simp only [Fl.vals, List.mem_cons, List.not_mem_nil, or_false] at hu
  rcases hu with rfl | rfl | rfl <;> rfl
theorem FieldsIn.none {X : Nat → Option Obj} {fs : List Fl} (h : FieldsIn X none fs) : fs = [] := by
  cases hfs : fs with
  | nil => rfl
  | cons f t =>
    obtain ⟨_, _, _, _, _, e, _⟩ := h.nm (k := 0) (f := f) (by rw [hfs]; rfl)
    cases e
end Go.Lg.Fld
namespace Go.Proofs.YtbpdbclndfmcgaaGreatDoor
open Go Go.Lg Go.Lg.Fld
set_option maxRecDepth 100000
abbrev SCx (c : Cp) (fad : Option Addr) (fcap : Nat) : SV := .agg [.val (.int .i64 c.id), .val (.string ⟨c.nm.toArray⟩), .val (.slice fad c.fs.length fcap)]
abbrev SC0 : SV := .agg [.val (.int .i64 0), .val (.string ⟨#[]⟩), .val (.slice none 0 0)]
abbrev SCs (c : Cp) (k : Nat) : SV := .agg [.val (.int .i64 c.id), .val (.string ⟨c.nm.toArray⟩), .slc k 0 c.fs.length 3]
abbrev fdB (k : Nat) (fs : List Fl) : Nat × Option Box := (k, some ⟨125, (flV fs).map .val, true⟩)
abbrev Lf (f : FuncId) (caps : List Value) : LV := .sv (.one (.val (.func (.func f) #[] caps.toArray)))
variable (X : Nat → Option Obj)
theorem idxC_spec (ad : Option Addr) (cap : Nat) (cs : List Cp) (hin : CompsIn X ad cs) (hbig : cs.length < 4611686018427387904) (f : FuncId) (caps : List Value) (p : Cp → Bool)
    (hp : ∀ c ∈ cs, ∀ fad fcap, PSpec Tryz.prog X f ([Cx c fad fcap] ++ caps.map fun v => .sv (.one (.val v))) (Lb (p c))) :
    PSpec Tryz.prog X 80 [Lx ad cs.length cap, Lf f caps] (Ln .i64 (findI p cs)) := by
  refine PSpec.intro Tryz.func80 rfl (by kernel_rfl) rfl rfl ?_
  intro C
  (refine LWP.seq <| rgN <| kas rfl <| RunK.nil <| LWP.seq <| LWP.seq <| rgN <| kmv rfl <| K.lenX rfl SliceT.h rfl .plain ?_; refine kmv rfl <| RunK.nil <| LWP.block ?_)
  refine LWP.loop (fun m σ => ∃ i : Nat, i ≤ cs.length ∧ m = cs.length - i ∧ (∀ (j : Nat) (y : Cp), j < i → cs[j]? = some y → p y = false) ∧ σ = ⟨[(0, Lx ad cs.length cap), (1, Lf f caps), (7, Ln .i64 (cs.length : Nat)), (8, Ln .i64 (i : Nat))], [], X⟩) cs.length
    ⟨_, Le.of (by exact ⟨rfl, rfl, rfl, rfl, trivial⟩) (by exact trivial) (by exact rfl) (by exact rfl) (by exact rfl), 0, by omega, by omega, fun j y hj => absurd hj (by omega), rfl⟩ ?_
  rintro m σ ⟨i, hi, rfl, hpre, rfl⟩
  by_cases hlt : i < cs.length
  · obtain ⟨c, hc⟩ : ∃ c, cs[i]? = some c := ⟨_, List.getElem?_eq_getElem hlt⟩
    obtain ⟨blk, off, arr, el, fr, fad, fcap, rfl, hX, hsz, hcs, _, _, _, hF⟩ := hin.get hc
    have hio : off + Int.toNat (i : Int) * 3 = off + i * 3 := by simp
    have hP := hp c (List.mem_of_getElem? hc) fad fcap
    cases hpc : p c with
    | true =>
      rw [hpc] at hP
      rw [findI_some hpre hc hpc]
      (refine LWP.seq <| rgN <| klt rfl rfl (decide_eq_true (by omega)) <| RunK.nil <| LWP.seq <| LWP.condT rfl ?_; refine LWP.skip ?_; refine LWP.seq <| LWP.block <| LWP.seq <| rgN <| kmv rfl <| kas rfl <| RunK.nil <| LWP.seq <| rgN <| kmv rfl <| kmv rfl <| kmv rfl <| K.indexX rfl rfl SliceT.h (by omega) hio .plain <| K.loadXagg rfl hX (by kernel_rfl) hsz hcs .plain ?_; refine K.callF rfl rfl rfl hP .plain ?_; refine RunK.nil <| LWP.condT rfl ?_; refine LWP.seq <| rgN <| kmv rfl <| kas rfl <| RunK.nil <| LWP.ret ?_)
      exact ⟨[_], ⟨rfl, trivial⟩, rfl⟩
    | false =>
      rw [hpc] at hP
      (refine LWP.seq <| rgN <| klt rfl rfl (decide_eq_true (by omega)) <| RunK.nil <| LWP.seq <| LWP.condT rfl ?_; refine LWP.skip ?_; refine LWP.seq <| LWP.block <| LWP.seq <| rgN <| kmv rfl <| kas rfl <| RunK.nil <| LWP.seq <| rgN <| kmv rfl <| kmv rfl <| kmv rfl <| K.indexX rfl rfl SliceT.h (by omega) hio .plain <| K.loadXagg rfl hX (by kernel_rfl) hsz hcs .plain ?_; refine K.callF rfl rfl rfl hP .plain ?_; refine RunK.nil <| LWP.condF rfl ?_; refine LWP.skip ?_; refine rgN <| kad rfl rfl (wrap_i64 (by omega)) <| kmv rfl <| RunK.nil ?_)
      exact ⟨_, _, by omega, Le.of (by exact ⟨rfl, rfl, rfl, rfl, trivial⟩) (by exact trivial) (by exact rfl) (by exact rfl) (by exact rfl), i + 1, by omega, rfl, (fun j y hj hy => by
        by_cases e : j = i
        · subst e; rw [hc] at hy; cases hy; exact hpc
        · exact hpre j y (by omega) hy), rfl⟩
  · rw [findI_none fun j y hy => hpre j y (by have := (List.getElem?_eq_some_iff.1 hy).1; omega) hy]
    (refine LWP.seq <| rgN <| klt rfl rfl (decide_eq_false (by omega)) <| RunK.nil <| LWP.seq <| LWP.condF rfl ?_; refine LWP.exit <| LWP.seq <| rgN <| kas rfl <| RunK.nil <| LWP.ret ?_)
    exact ⟨[_], ⟨rfl, trivial⟩, rfl⟩
abbrev Vp (b : Nat) : LV := .sv (.one (.val (.pointer (some ⟨b, 0, none⟩))))
theorem find1_spec (c : Cp) (fad : Option Addr) (fcap : Nat) (id : Int) {b : Nat} {arr : Array Value} {el : TypeId} {fr : Nat × Nat} (hX : X b = some (.cells arr el fr)) (h0 : arr[0]? = some (.int .i64 id)) :
    PSpec Tryz.prog X 132 [Cx c fad fcap, Vp b] (Lb (c.id == id)) := by
  refine PSpec.intro Tryz.func132 rfl (by kernel_rfl) rfl rfl ?_
  intro C
  (refine LWP.seq <| rgN <| K.box rfl rfl rfl .plain <| kas rfl <| RunK.nil <| LWP.seq <| rgN <| kfa rfl rfl ?_; refine kl1 rfl rfl rfl <| K.loadX rfl hX rfl h0 .plain <| keq rfl rfl rfl <| kas rfl <| RunK.nil <| LWP.ret ?_)
  exact ⟨[_], ⟨rfl, trivial⟩, rfl⟩
theorem fclone_nil (cap : Nat) : PSpec Tryz.prog X 111 [Lx none 0 cap] (Lx none 0 0) := by
  refine PSpec.intro Tryz.func111 rfl (by kernel_rfl) rfl rfl ?_
  intro C
  (refine LWP.seq <| rgN <| kas rfl <| RunK.nil <| LWP.seq <| LWP.seq <| rgN <| kmv rfl <| K.slcNil (r := true) rfl SliceT.h (.inl ⟨rfl, rfl⟩) .plain ?_; refine RunK.nil <| LWP.condT rfl ?_; refine LWP.seq <| rgN <| kas rfl <| RunK.nil <| LWP.ret ?_)
  exact ⟨[_], ⟨rfl, trivial⟩, rfl⟩
theorem fclone_some (fa : Addr) (cap : Nat) (fs : List Fl) (hF : FieldsIn X (some fa) fs) (hb : fs.length ≤ 4398046511104) :
    MSpec Tryz.prog X 111 [Lx (some fa) fs.length cap] [] (.sv (.one (.slc 1000001 0 fs.length 3))) [fdB 1000001 fs] := by
  refine MSpec.intro Tryz.func111 rfl (by kernel_rfl) rfl rfl (by exact (by repeat' (first | refine all_cons_true ?_ ?_ | rfl | exact bytes_inUse | exact vals_inUse | exact mid_inUse rfl))) rfl rfl ?_
  intro C
  (refine LWP.seq <| rgN <| kas rfl <| RunK.nil <| LWP.seq <| LWP.seq <| rgN <| kmv rfl <| K.slcNil (r := false) rfl SliceT.h (.inl ⟨rfl, rfl⟩) .plain ?_; refine RunK.nil <| LWP.condF rfl ?_; refine LWP.skip ?_; refine LWP.seq <| rgN <| K.buildSlc (zs := []) (sz := 3) (e := 125) (by kernel_rfl) rfl rfl rfl rfl rfl rfl .plain <| kmv rfl <| K.appendX (by_ := 32) (e2 := 125) (news := flV fs) (nl := fs.length) (nc := (flV fs).map .val) rfl rfl rfl rfl (fields_reads hF) (flV_len fs) (flV_one fs) (by kernel_rfl) (by kernel_rfl) (by omega) (by omega) rfl (by omega) rfl .plain ?_; refine kas rfl <| RunK.nil <| LWP.ret ?_)
  exact ⟨[(1000001, 7)], ⟨[_], ⟨rfl, trivial⟩, rfl⟩, (by repeat' (first | exact trivial | refine And.intro ⟨_, rfl, ?_⟩ ?_ | refine And.intro ⟨_, rfl⟩ ?_ | rfl | exact Box.ren_bytes _ _ _ _ | exact Box.ren_vals _ _ _ _ | exact Box.ren_mid rfl)), rfl, rfl⟩
theorem cclone_nil (c : Cp) (cap : Nat) (h : c.fs = []) : PSpec Tryz.prog X 89 [Cx c none cap] (.sv (SCx c none 0)) := by
  refine PSpec.intro Tryz.func89 rfl (by kernel_rfl) rfl rfl ?_
  intro C
  have hq := fclone_nil X cap
  obtain ⟨id, nm, fs⟩ := c
  simp only at h
  subst h
  (refine LWP.seq <| rgN <| K.box rfl rfl rfl .plain <| K.alloc rfl .plain ?_; refine RunK.nil <| LWP.seq <| rgN <| kfa rfl rfl ?_; refine kl1 rfl rfl rfl <| kca rfl rfl hq <| kfa rfl rfl ?_; refine K.storeOne rfl rfl rfl rfl rfl (nl3 rfl rfl rfl rfl) .plain <| RunK.nil <| LWP.seq <| rgN <| K.loadAll rfl rfl rfl .plain ?_; refine K.storeAll rfl rfl rfl rfl rfl rfl .plain ?_; refine RunK.nil <| LWP.ret ?_)
  exact ⟨[_], ⟨⟨_, _, rfl, rfl, rfl, .inl ⟨AggT.h, rfl⟩⟩, trivial⟩, rfl⟩
theorem cclone_some (c : Cp) (fa : Addr) (cap : Nat) (hF : FieldsIn X (some fa) c.fs) (hb : c.fs.length ≤ 4398046511104) :
    MSpec Tryz.prog X 89 [Cx c (some fa) cap] [] (.sv (SCs c 1000001)) [fdB 1000001 c.fs] := by
  refine MSpec.intro Tryz.func89 rfl (by kernel_rfl) rfl rfl (by exact (by repeat' (first | refine all_cons_true ?_ ?_ | rfl | exact bytes_inUse | exact vals_inUse | exact mid_inUse rfl))) rfl rfl ?_
  intro C
  have hq := fclone_some X fa cap c.fs hF hb
  (refine LWP.seq <| rgN <| K.box rfl rfl rfl .plain <| K.alloc rfl .plain ?_; refine RunK.nil <| LWP.seq <| rgN <| kfa rfl rfl ?_; refine kl1 rfl rfl rfl <| K.callMp [(1000001, 20)] (.sv (.one (.slc 20 0 c.fs.length 3))) [fdB 20 c.fs] (hq) rfl rfl (by exact trivial) rfl rfl rfl rfl rfl (by exact (.box rfl (Box.ren_vals _ _ _ _) .nil)) .plain <| kfa rfl rfl ?_; refine K.storeOne rfl rfl rfl rfl rfl (nl3 rfl rfl rfl rfl) .plain <| RunK.nil <| LWP.seq <| rgN <| K.loadAll rfl rfl rfl .plain ?_; refine K.storeAll rfl rfl rfl rfl rfl rfl .plain ?_; refine RunK.nil <| LWP.ret ?_)
  exact ⟨[(1000001, 20)], ⟨[_], ⟨⟨_, _, rfl, rfl, rfl, .inl ⟨AggT.h, rfl⟩⟩, trivial⟩, rfl⟩, (by repeat' (first | exact trivial | refine And.intro ⟨_, rfl, ?_⟩ ?_ | refine And.intro ⟨_, rfl⟩ ?_ | rfl | exact Box.ren_bytes _ _ _ _ | exact Box.ren_vals _ _ _ _ | exact Box.ren_mid rfl)), rfl, rfl⟩
section
variable (ver : Int) (ad : Option Addr) (cap : Nat) (cs : List Cp) (f : FuncId) (caps : List Value) (p : Cp → Bool)
theorem first_no (hin : CompsIn X ad cs) (hbig : cs.length < 4611686018427387904) (hp : ∀ c ∈ cs, ∀ fad fcap, PSpec Tryz.prog X f ([Cx c fad fcap] ++ caps.map fun v => .sv (.one (.val v))) (Lb (p c))) (hno : findI p cs = -1) :
    PSpec Tryz.prog X 131 [Sx ver ad cs.length cap, Lf f caps] (.tup [SC0, Sb false]) := by
  refine PSpec.intro Tryz.func131 rfl (by kernel_rfl) rfl rfl ?_
  intro C
  have hI := idxC_spec X ad cap cs hin hbig f caps p hp
  rw [hno] at hI
  (refine LWP.seq <| rgN <| K.box rfl rfl rfl .plain <| K.alloc rfl .plain ?_; refine kas rfl <| RunK.nil <| LWP.seq <| rgN <| kfa rfl rfl ?_; refine kl1 rfl rfl rfl <| kmv rfl <| kca rfl rfl hI <| kas rfl <| RunK.nil <| LWP.seq <| LWP.seq <| rgN <| kmv rfl <| klt rfl rfl rfl <| RunK.nil <| LWP.condT rfl ?_; refine LWP.seq <| rgN <| K.build rfl rfl (by exact rfl) (by exact nl3 rfl rfl rfl rfl) .plain ?_; refine K.storeAll rfl rfl rfl rfl rfl rfl .plain ?_; refine kas rfl <| RunK.nil <| LWP.ret ?_)
  exact ⟨[_, _], ⟨⟨_, _, rfl, rfl, rfl, .inl ⟨AggT.h, rfl⟩⟩, rfl, trivial⟩, rfl⟩
theorem first_nil (hin : CompsIn X ad cs) (hbig : cs.length < 4611686018427387904) (hp : ∀ c ∈ cs, ∀ fad fcap, PSpec Tryz.prog X f ([Cx c fad fcap] ++ caps.map fun v => .sv (.one (.val v))) (Lb (p c)))
    {i : Nat} {c : Cp} (hpre : ∀ (j : Nat) (y : Cp), j < i → cs[j]? = some y → p y = false) (hc : cs[i]? = some c) (he : p c = true)
    {blk off : Nat} {arr : Array Value} {el : TypeId} {fr : Nat × Nat} {fcap : Nat} (had : ad = some ⟨blk, off, none⟩) (hX : X blk = some (.cells arr el fr)) (hsz : off + i * 3 + 3 ≤ arr.size) (hcs : ((arr.toList.drop (off + i * 3)).take 3).map CV.val = [.val (.int .i64 c.id), .val (.string ⟨c.nm.toArray⟩), .val (.slice none c.fs.length fcap)]) (h0 : c.fs = []) :
    PSpec Tryz.prog X 131 [Sx ver ad cs.length cap, Lf f caps] (.tup [SCx c none 0, Sb true]) := by
  subst had
  have hI := idxC_spec X _ cap cs hin hbig f caps p hp
  rw [findI_some hpre hc he] at hI
  have hi := (List.getElem?_eq_some_iff.1 hc).1
  have hio : off + Int.toNat (i : Int) * 3 = off + i * 3 := by simp
  refine PSpec.intro Tryz.func131 rfl (by kernel_rfl) rfl rfl ?_
  intro C
  have hq := cclone_nil X c fcap h0
  (refine LWP.seq <| rgN <| K.box rfl rfl rfl .plain <| K.alloc rfl .plain ?_; refine kas rfl <| RunK.nil <| LWP.seq <| rgN <| kfa rfl rfl ?_; refine kl1 rfl rfl rfl <| kmv rfl <| kca rfl rfl hI <| kas rfl <| RunK.nil <| LWP.seq <| LWP.seq <| rgN <| kmv rfl <| klt rfl rfl (decide_eq_false (by omega)) <| RunK.nil <| LWP.condF rfl ?_; refine LWP.skip ?_; refine LWP.seq <| rgN <| kfa rfl rfl ?_; refine kl1 rfl rfl rfl <| kmv rfl <| K.indexX rfl rfl SliceT.h (by omega) hio .plain <| K.loadXagg rfl hX (by kernel_rfl) hsz hcs .plain <| kca rfl rfl hq <| K.storeAll rfl rfl rfl rfl rfl rfl .plain ?_; refine kas rfl <| RunK.nil <| LWP.ret ?_)
  exact ⟨[_, _], ⟨⟨_, _, rfl, rfl, rfl, .inl ⟨AggT.h, rfl⟩⟩, rfl, trivial⟩, rfl⟩
theorem first_box (hin : CompsIn X ad cs) (hbig : cs.length < 4611686018427387904) (hp : ∀ c ∈ cs, ∀ fad fcap, PSpec Tryz.prog X f ([Cx c fad fcap] ++ caps.map fun v => .sv (.one (.val v))) (Lb (p c)))
    {i : Nat} {c : Cp} (hpre : ∀ (j : Nat) (y : Cp), j < i → cs[j]? = some y → p y = false) (hc : cs[i]? = some c) (he : p c = true)
    {blk off : Nat} {arr : Array Value} {el : TypeId} {fr : Nat × Nat} {fcap : Nat} {fa : Addr} (had : ad = some ⟨blk, off, none⟩) (hX : X blk = some (.cells arr el fr)) (hsz : off + i * 3 + 3 ≤ arr.size) (hcs : ((arr.toList.drop (off + i * 3)).take 3).map CV.val = [.val (.int .i64 c.id), .val (.string ⟨c.nm.toArray⟩), .val (.slice (some fa) c.fs.length fcap)]) (hF : FieldsIn X (some fa) c.fs) (hfb : c.fs.length ≤ 4398046511104) :
    MSpec Tryz.prog X 131 [Sx ver ad cs.length cap, Lf f caps] [] (.tup [SCs c 1000001, Sb true]) [fdB 1000001 c.fs] := by
  subst had
  have hI := idxC_spec X _ cap cs hin hbig f caps p hp
  rw [findI_some hpre hc he] at hI
  have hi := (List.getElem?_eq_some_iff.1 hc).1
  have hio : off + Int.toNat (i : Int) * 3 = off + i * 3 := by simp
  refine MSpec.intro Tryz.func131 rfl (by kernel_rfl) rfl rfl (by exact (by repeat' (first | refine all_cons_true ?_ ?_ | rfl | exact bytes_inUse | exact vals_inUse | exact mid_inUse rfl))) rfl rfl ?_
  intro C
  have hq := cclone_some X c fa fcap hF hfb
  (refine LWP.seq <| rgN <| K.box rfl rfl rfl .plain <| K.alloc rfl .plain ?_; refine kas rfl <| RunK.nil <| LWP.seq <| rgN <| kfa rfl rfl ?_; refine kl1 rfl rfl rfl <| kmv rfl <| kca rfl rfl hI <| kas rfl <| RunK.nil <| LWP.seq <| LWP.seq <| rgN <| kmv rfl <| klt rfl rfl (decide_eq_false (by omega)) <| RunK.nil <| LWP.condF rfl ?_; refine LWP.skip ?_; refine LWP.seq <| rgN <| kfa rfl rfl ?_; refine kl1 rfl rfl rfl <| kmv rfl <| K.indexX rfl rfl SliceT.h (by omega) hio .plain <| K.loadXagg rfl hX (by kernel_rfl) hsz hcs .plain <| K.callMp [(1000001, 20)] (.sv (SCs c 20)) [fdB 20 c.fs] (hq) rfl rfl (by exact trivial) rfl rfl rfl rfl rfl (by exact (.box rfl (Box.ren_vals _ _ _ _) .nil)) .plain <| K.storeAll rfl rfl rfl rfl rfl rfl .plain ?_; refine kas rfl <| RunK.nil <| LWP.ret ?_)
  exact ⟨[(1000001, 20)], ⟨[_, _], ⟨⟨_, _, rfl, rfl, rfl, .inl ⟨AggT.h, rfl⟩⟩, rfl, trivial⟩, rfl⟩, (by repeat' (first | exact trivial | refine And.intro ⟨_, rfl, ?_⟩ ?_ | refine And.intro ⟨_, rfl⟩ ?_ | rfl | exact Box.ren_bytes _ _ _ _ | exact Box.ren_vals _ _ _ _ | exact Box.ren_mid rfl)), rfl, rfl⟩
end
theorem at_zero {arr : Array Value} {v : Value} (h : ∃ sp, arr.toList = [v] ++ sp) : arr[0]? = some v := by
  obtain ⟨sp, h⟩ := h
  rw [← Array.getElem?_toList, h]; rfl
theorem pFind_no (ver : Int) (ad : Option Addr) (cap : Nat) (cs : List Cp) (id : Int) (hin : CompsIn X ad cs) (hbig : cs.length < 4611686018427387904) (hno : ∀ (j : Nat) (y : Cp), cs[j]? = some y → (y.id == id) = false) :
    PSpec Tryz.prog X 118 [Sx ver ad cs.length cap, Ln .i64 id] (.tup [SC0, Sb false]) := by
  refine PSpec.intro Tryz.func118 rfl (by kernel_rfl) rfl rfl ?_
  intro C
  (refine LWP.seq <| rgN <| K.box rfl rfl rfl .plain <| K.box1 rfl rfl rfl .plain <| K.alloc rfl .plain ?_; refine kas rfl <| RunK.nil <| LWP.seq ?_)
  refine LWP.le (σ' := ⟨[(3, Lp 3), (2, Lp 2), (4, Lp 4)], [(3, some ⟨3, [Value.int .i64 id].map .val, false⟩), sxB 2 ver ad cs.length cap, (4, some ⟨86, [.val (.int .i64 0), .val (.string ⟨#[]⟩), .val (.slice none 0 0)], false⟩)], X⟩) (Le.of (by exact ⟨rfl, rfl, rfl, trivial⟩) (by exact ⟨rfl, rfl, rfl, trivial⟩) (by exact rfl) (by exact rfl) (by repeat' (first | refine all_cons_true ?_ ?_ | rfl | exact bytes_inUse | exact vals_inUse | exact mid_inUse rfl))) ?_
  refine LWP.freezePtr (by rfl) (by rfl) (by rfl) fun b arr0 fr0 hn _ h0 => ?_
  have hin' := hin.mono (withBlock_old (o := .cells arr0 3 fr0) hn)
  have hp := fun (c : Cp) (_ : c ∈ cs) (fad : Option Addr) (fcap : Nat) => find1_spec _ c fad fcap id (withBlock_at X b (.cells arr0 3 fr0)) (at_zero h0)
  have hq := first_no _ ver ad cap cs 132 [.pointer (some ⟨b, 0, none⟩)] (fun c => c.id == id) hin' hbig hp (findI_none hno)
  (refine rgN <| K.loadAll rfl rfl rfl .plain ?_; refine K.makeFunc rfl rfl .plain ?_; refine kca rfl rfl hq <| kex rfl rfl <| kex rfl rfl <| K.storeAll rfl rfl rfl rfl rfl rfl .plain ?_; refine kas rfl <| RunK.nil <| LWP.ret ?_)
  exact ⟨[_, _], ⟨⟨_, _, rfl, rfl, rfl, .inl ⟨AggT.h, rfl⟩⟩, rfl, trivial⟩, rfl⟩
theorem pFind (ver : Int) (ad : Option Addr) (cap : Nat) (cs : List Cp) (id : Int) (hin : CompsIn X ad cs) (hbig : cs.length < 4611686018427387904) (hfs : ∀ c ∈ cs, c.fs.length ≤ 4398046511104) {i : Nat} {c : Cp} (hpre : ∀ (j : Nat) (y : Cp), j < i → cs[j]? = some y → (y.id == id) = false) (hc : cs[i]? = some c) (he : c.id = id) :
    (c.fs = [] ∧ PSpec Tryz.prog X 118 [Sx ver ad cs.length cap, Ln .i64 id] (.tup [SCx c none 0, Sb true])) ∨
      MSpec Tryz.prog X 118 [Sx ver ad cs.length cap, Ln .i64 id] [] (.tup [SCs c 1000001, Sb true]) [fdB 1000001 c.fs] := by
  have he' : (c.id == id) = true := by rw [beq_iff_eq]; exact he
  obtain ⟨blk, off, arr, el, fr, fad, fcap, rfl, hX, hsz, hcs, _, _, _, hF⟩ := hin.get hc
  cases fad with
  | none =>
    have hnil := hF.none
    refine .inl ⟨hnil, ?_⟩
    refine PSpec.intro Tryz.func118 rfl (by kernel_rfl) rfl rfl ?_
    intro C
    (refine LWP.seq <| rgN <| K.box rfl rfl rfl .plain <| K.box1 rfl rfl rfl .plain <| K.alloc rfl .plain ?_; refine kas rfl <| RunK.nil <| LWP.seq ?_)
    refine LWP.le (σ' := ⟨[(3, Lp 3), (2, Lp 2), (4, Lp 4)], [(3, some ⟨3, [Value.int .i64 id].map .val, false⟩), sxB 2 ver (some ⟨blk, off, none⟩) cs.length cap, (4, some ⟨86, [.val (.int .i64 0), .val (.string ⟨#[]⟩), .val (.slice none 0 0)], false⟩)], X⟩) (Le.of (by exact ⟨rfl, rfl, rfl, trivial⟩) (by exact ⟨rfl, rfl, rfl, trivial⟩) (by exact rfl) (by exact rfl) (by repeat' (first | refine all_cons_true ?_ ?_ | rfl | exact bytes_inUse | exact vals_inUse | exact mid_inUse rfl))) ?_
    refine LWP.freezePtr (by rfl) (by rfl) (by rfl) fun b arr0 fr0 hn _ h0 => ?_
    have hin' := hin.mono (withBlock_old (o := .cells arr0 3 fr0) hn)
    have hp := fun (c : Cp) (_ : c ∈ cs) (fad : Option Addr) (fcap : Nat) => find1_spec _ c fad fcap id (withBlock_at X b (.cells arr0 3 fr0)) (at_zero h0)
    have hq := first_nil _ ver _ cap cs 132 [.pointer (some ⟨b, 0, none⟩)] (fun c => c.id == id) hin' hbig hp hpre hc he' rfl (withBlock_old hn _ _ hX) hsz hcs hnil
    (refine rgN <| K.loadAll rfl rfl rfl .plain ?_; refine K.makeFunc rfl rfl .plain ?_; refine kca rfl rfl hq <| kex rfl rfl <| kex rfl rfl <| K.storeAll rfl rfl rfl rfl rfl rfl .plain ?_; refine kas rfl <| RunK.nil <| LWP.ret ?_)
    exact ⟨[_, _], ⟨⟨_, _, rfl, rfl, rfl, .inl ⟨AggT.h, rfl⟩⟩, rfl, trivial⟩, rfl⟩
  | some fa =>
    refine .inr ?_
    refine MSpec.intro Tryz.func118 rfl (by kernel_rfl) rfl rfl (by exact (by repeat' (first | refine all_cons_true ?_ ?_ | rfl | exact bytes_inUse | exact vals_inUse | exact mid_inUse rfl))) rfl rfl ?_
    intro C
    (refine LWP.seq <| rgN <| K.box rfl rfl rfl .plain <| K.box1 rfl rfl rfl .plain <| K.alloc rfl .plain ?_; refine kas rfl <| RunK.nil <| LWP.seq ?_)
    refine LWP.le (σ' := ⟨[(3, Lp 3), (2, Lp 2), (4, Lp 4)], [(3, some ⟨3, [Value.int .i64 id].map .val, false⟩), sxB 2 ver (some ⟨blk, off, none⟩) cs.length cap, (4, some ⟨86, [.val (.int .i64 0), .val (.string ⟨#[]⟩), .val (.slice none 0 0)], false⟩)], X⟩) (Le.of (by exact ⟨rfl, rfl, rfl, trivial⟩) (by exact ⟨rfl, rfl, rfl, trivial⟩) (by exact rfl) (by exact rfl) (by repeat' (first | refine all_cons_true ?_ ?_ | rfl | exact bytes_inUse | exact vals_inUse | exact mid_inUse rfl))) ?_
    refine LWP.freezePtr (by rfl) (by rfl) (by rfl) fun b arr0 fr0 hn _ h0 => ?_
    have hin' := hin.mono (withBlock_old (o := .cells arr0 3 fr0) hn)
    have hp := fun (c : Cp) (_ : c ∈ cs) (fad : Option Addr) (fcap : Nat) => find1_spec _ c fad fcap id (withBlock_at X b (.cells arr0 3 fr0)) (at_zero h0)
    have hq := first_box _ ver _ cap cs 132 [.pointer (some ⟨b, 0, none⟩)] (fun c => c.id == id) hin' hbig hp hpre hc he' rfl (withBlock_old hn _ _ hX) hsz hcs (hF.mono (withBlock_old hn)) (hfs c (List.mem_of_getElem? hc))
    (refine rgN <| K.loadAll rfl rfl rfl .plain ?_; refine K.makeFunc rfl rfl .plain ?_; refine K.callMp [(1000001, 20)] (.tup [SCs c 20, Sb true]) [fdB 20 c.fs] (hq) rfl rfl (by exact trivial) rfl rfl rfl rfl rfl (by exact (.box rfl (Box.ren_vals _ _ _ _) .nil)) .plain <| kex rfl rfl <| kex rfl rfl <| K.storeAll rfl rfl rfl rfl rfl rfl .plain ?_; refine kas rfl <| RunK.nil <| LWP.ret ?_)
    exact ⟨[(1000001, 20)], ⟨[_, _], ⟨⟨_, _, rfl, rfl, rfl, .inl ⟨AggT.h, rfl⟩⟩, rfl, trivial⟩, rfl⟩, (by repeat' (first | exact trivial | refine And.intro ⟨_, rfl, ?_⟩ ?_ | refine And.intro ⟨_, rfl⟩ ?_ | rfl | exact Box.ren_bytes _ _ _ _ | exact Box.ren_vals _ _ _ _ | exact Box.ren_mid rfl)), rfl, rfl⟩
end Go.Proofs.YtbpdbclndfmcgaaGreatDoor
end
section
namespace Go.Lg.Fld
open Go Go.Lg
def idsV (cs : List Cp) : List Value := cs.map fun c => .int .i64 c.id
end Go.Lg.Fld
namespace Go.Proofs.YtbpdbclndfmcgaaGreatDoor
open Go Go.Lg Go.Lg.Fld
set_option maxRecDepth 100000
variable (X : Nat → Option Obj)
theorem pIds (ver : Int) (ad : Option Addr) (cap : Nat) (cs : List Cp) (hin : CompsIn X ad cs) (hS : cs.length ≤ 65536) : MSpec Tryz.prog X 67 [Sx ver ad cs.length cap] [] (.sv (.one (.slc 1000001 0 cs.length))) [(1000001, some ⟨3, (idsV cs).map .val, false⟩)] := by
  refine MSpec.intro Tryz.func67 rfl (by kernel_rfl) rfl rfl (by exact (by repeat' (first | refine all_cons_true ?_ ?_ | rfl | exact bytes_inUse | exact vals_inUse | exact mid_inUse rfl))) rfl rfl ?_
  intro C
  have hmk : slcBuild Tryz.prog 58 cs.length = some (List.replicate cs.length (.int .i64 0), 1, 3) := slcBuild_one (by kernel_rfl) (by kernel_rfl) (by omega)
  (refine LWP.seq <| rgN <| K.box rfl rfl rfl .plain <| kas rfl <| RunK.nil <| LWP.seq <| rgN <| kfa rfl rfl ?_; refine kl1 rfl rfl rfl <| K.lenX rfl SliceT.h rfl .plain ?_; refine K.makeSlc (m := cs.length) (bytes := 8) rfl rfl hmk (by kernel_rfl) (by omega) rfl rfl .plain <| kas rfl <| RunK.nil <| LWP.seq <| LWP.seq <| rgN <| kfa rfl rfl ?_; refine kl1 rfl rfl rfl <| K.lenX rfl SliceT.h rfl .plain ?_; refine kmv rfl <| RunK.nil <| LWP.block ?_)
  refine LWP.loop (fun m σ => ∃ i : Nat, i ≤ cs.length ∧ m = cs.length - i ∧ σ = ⟨[(3, .sv (.one (.slc 9 0 cs.length))), (11, Lx ad cs.length cap), (12, Ln .i64 (cs.length : Nat)), (13, Ln .i64 (i : Nat))], [(9, some ⟨3, (idsV (cs.take i) ++ List.replicate (cs.length - i) (Value.int .i64 0)).map .val, false⟩)], X⟩) cs.length
    ⟨_, Le.of (by exact ⟨rfl, rfl, rfl, rfl, trivial⟩) (by exact ⟨rfl, trivial⟩) (by exact rfl) (by exact rfl) (by repeat' (first | refine all_cons_true ?_ ?_ | rfl | exact bytes_inUse | exact vals_inUse | exact mid_inUse rfl)), 0, by omega, by omega, rfl⟩ ?_
  rintro m σ ⟨i, hi, rfl, rfl⟩
  by_cases hlt : i < cs.length
  · obtain ⟨c, hc⟩ : ∃ c, cs[i]? = some c := ⟨_, List.getElem?_eq_getElem hlt⟩
    obtain ⟨blk, off, arr, el, fr, fad, fcap, rfl, hX, hsz, hcs, _, _, _, hF⟩ := hin.get hc
    have hio : off + Int.toNat (i : Int) * 3 = off + i * 3 := by simp
    have hix : 0 + Int.toNat (i : Int) * 1 = i := by rw [Int.toNat_natCast]; omega
    have hil : (idsV (cs.take i)).length = i := by unfold idsV; rw [List.length_map, List.length_take]; omega
    have hroom : i + 1 ≤ ((idsV (cs.take i) ++ List.replicate (cs.length - i) (Value.int .i64 0)).map CV.val).length := by rw [List.length_map, List.length_append, hil, List.length_replicate]; omega
    have hspl : splice ((idsV (cs.take i) ++ List.replicate (cs.length - i) (Value.int .i64 0)).map CV.val) i [.val (.int .i64 c.id)] = (idsV (cs.take (i + 1)) ++ List.replicate (cs.length - (i + 1)) (Value.int .i64 0)).map CV.val := by
      unfold splice
      rw [show cs.length - i = (cs.length - (i + 1)) + 1 by omega, List.replicate_succ, take_snoc hc]
      have e : idsV (cs.take i ++ [c]) = idsV (cs.take i) ++ [.int .i64 c.id] := by unfold idsV; rw [List.map_append]; rfl
      rw [e]
      simp only [List.map_append, List.append_assoc]
      have hml : ((idsV (cs.take i)).map CV.val).length = i := by rw [List.length_map, hil]
      generalize (idsV (cs.take i)).map CV.val = R at *
      rw [← hml, List.take_left, List.drop_length_add_append]
      simp
    (refine LWP.seq <| rgN <| klt rfl rfl (decide_eq_true (by omega)) <| RunK.nil <| LWP.seq <| LWP.condT rfl ?_; refine LWP.skip ?_; refine LWP.seq <| LWP.block <| LWP.seq <| rgN <| kmv rfl <| K.indexX rfl rfl SliceT.h (by omega) hio .plain <| K.loadXagg rfl hX (by kernel_rfl) hsz hcs .plain <| K.alloc rfl .plain ?_; refine kas rfl <| K.storeAll rfl rfl rfl rfl rfl rfl .plain ?_; refine RunK.nil <| rgN <| kmv rfl <| kmv rfl <| kfa rfl rfl ?_; refine kl1 rfl rfl rfl <| K.indexSlc rfl rfl (by omega) hix .plain ?_; refine K.store rfl rfl rfl rfl (by kernel_rfl) hroom hspl .plain <| RunK.nil <| rgN <| kad rfl rfl (wrap_i64 (by omega)) <| kmv rfl <| RunK.nil ?_)
    exact ⟨_, _, by omega, Le.of (by exact ⟨rfl, rfl, rfl, rfl, trivial⟩) (by exact ⟨rfl, trivial⟩) (by exact rfl) (by exact rfl) (by repeat' (first | refine all_cons_true ?_ ?_ | rfl | exact bytes_inUse | exact vals_inUse | exact mid_inUse rfl)), i + 1, by omega, rfl, rfl⟩
  · have e : i = cs.length := by omega
    subst e
    rw [List.take_length, Nat.sub_self, List.replicate_zero, List.append_nil]
    (refine LWP.seq <| rgN <| klt rfl rfl (decide_eq_false (by omega)) <| RunK.nil <| LWP.seq <| LWP.condF rfl ?_; refine LWP.exit <| LWP.seq <| rgN <| kmv rfl <| kas rfl <| RunK.nil <| LWP.ret ?_)
    exact ⟨[(1000001, 9)], ⟨[_], ⟨rfl, trivial⟩, rfl⟩, (by repeat' (first | exact trivial | refine And.intro ⟨_, rfl, ?_⟩ ?_ | refine And.intro ⟨_, rfl⟩ ?_ | rfl | exact Box.ren_bytes _ _ _ _ | exact Box.ren_vals _ _ _ _ | exact Box.ren_mid rfl)), rfl, rfl⟩
end Go.Proofs.YtbpdbclndfmcgaaGreatDoor
end
section
namespace Go.Lg.Fld
open Go Go.Lg
theorem rowsZ_app : ∀ {a b : List Cp} {u v : List Value}, u.length = a.length → rowsZ (a ++ b) (u ++ v) = rowsZ a u ++ rowsZ b v
  | [], _, [], _, _ => rfl
  | _ :: a, b, _ :: u, v, h => by
    simp only [List.length_cons] at h
    simp only [List.cons_append, rowsZ]
    rw [rowsZ_app (a := a) (b := b) (u := u) (v := v) (by omega)]
  | [], _, _ :: _, _, h => by simp at h
  | _ :: _, _, [], _, h => by simp at h
theorem joinM_has {C : Ctx} {Y H : Nat → Option Obj} (hO : OwnedM C Y H) {b : Nat} {o : Obj} (h : Y b = some o) : joinM Y H b = some o := by
  cases hb : H b with
  | none => rw [joinM_out hb]; exact h
  | some o' => have := (hO.own b o' hb).2.2; rw [this] at h; cases h
def zer (k : Nat) : List Value := (List.replicate k [Value.int .i64 0, Value.string ⟨#[]⟩, Value.slice none 0 0]).flatten
theorem zer_succ (k : Nat) : zer (k + 1) = [Value.int .i64 0, Value.string ⟨#[]⟩, Value.slice none 0 0] ++ zer k := by unfold zer; rw [List.replicate_succ, List.flatten_cons]
theorem zer_len (k : Nat) : (zer k).length = k * 3 := by
  induction k with
  | zero => rfl
  | succ k ih => rw [zer_succ, List.length_append, ih]; simp; omega
theorem rowsZ_snoc {cs : List Cp} {cells : List Value} {i : Nat} {c : Cp} {v : Value} (hl : cells.length = i) (hc : cs[i]? = some c) : rowsZ (cs.take (i + 1)) (cells ++ [v]) = rowsZ (cs.take i) cells ++ [.int .i64 c.id, .string ⟨c.nm.toArray⟩, v] := by
  rw [take_snoc hc, rowsZ_app (by rw [List.length_take]; have := (List.getElem?_eq_some_iff.1 hc).1; omega)]; rfl
def idM (ns : List Int) : List (Value × Value) := ns.map fun x => (.int .i64 x, .agg #[])
theorem idM_at (ns : List Int) (x : Int) : At (idM ns) (.int .i64 x) (.agg #[]) (.agg #[]) := by
  by_cases h : x ∈ ns
  · exact .inl (List.mem_map.2 ⟨x, h, rfl⟩)
  · refine .inr ⟨fun p hp e => ?_, rfl⟩
    obtain ⟨y, hy, rfl⟩ := List.mem_map.1 hp
    simp only [Value.int.injEq, true_and] at e
    exact h (e ▸ hy)
theorem idM_any (ns : List Int) (x : Int) (r : Bool) (hr : ns.any (fun m => m == x) = r) : r = true ↔ ∃ p ∈ idM ns, p.1 = .int .i64 x := by
  subst hr
  rw [List.any_eq_true]
  constructor
  · rintro ⟨m, hm, he⟩
    rw [beq_iff_eq] at he
    subst he
    exact ⟨_, List.mem_map.2 ⟨m, hm, rfl⟩, rfl⟩
  · rintro ⟨p, hp, e⟩
    obtain ⟨y, hy, rfl⟩ := List.mem_map.1 hp
    simp only [Value.int.injEq, true_and] at e
    exact ⟨y, hy, by rw [beq_iff_eq]; exact e⟩
theorem idM_put {ns : List Int} {x : Int} (h : ns.any (fun m => m == x) = false) : Put (idM ns) (.int .i64 x) (.agg #[]) (idM (ns ++ [x])) := by
  refine .inr ⟨fun p hp e => ?_, by unfold idM; rw [List.map_append]; rfl⟩
  obtain ⟨y, hy, rfl⟩ := List.mem_map.1 hp
  simp only [Value.int.injEq, true_and] at e
  rw [List.any_eq_false] at h
  exact h y hy (by rw [beq_iff_eq]; exact e)
theorem fields_none {X : Nat → Option Obj} {ad : Option Addr} {fs : List Fl} (h : fs = []) : FieldsIn X ad fs := by
  subst h
  exact ⟨fun k r hr => (by simp at hr), fun f hf => (by cases hf)⟩
theorem lent_fields {S : Nat → Option (Option Box)} {Y : Nat → Option Obj} {k n : Nat} {el : TypeId} {row : Bool} {fs : List Fl} {u : Value} (hk : S k = some (some ⟨el, (flV fs).map .val, row⟩)) (hs : ∀ f ∈ fs, (-9223372036854775808 ≤ f.kind ∧ f.kind < 9223372036854775808) ∧ (-9223372036854775808 ≤ f.count ∧ f.count < 9223372036854775808)) (h : LentC S Y (.slc k 0 n 3) u) :
    ∃ (fa : Addr) (fcap : Nat), u = .slice (some fa) n fcap ∧ FieldsIn Y (some fa) fs := by
  obtain ⟨b, blk, cap2, m, hk', rfl, hc, hfit, hB⟩ := h
  rw [hk] at hk'
  simp only [Option.some.injEq] at hk'
  subst hk'
  obtain ⟨arr, fr, us', sp, hYb, hsz, harr, hv⟩ := hB
  have := hv _ rfl
  subst this
  exact ⟨⟨blk, 0, none⟩, cap2, rfl, fields_block hYb harr hs⟩
end Go.Lg.Fld
namespace Go.Proofs.YtbpdbclndfmcgaaGreatDoor
open Go Go.Lg Go.Lg.Fld
set_option maxRecDepth 100000
section
variable {n : Nat} {C : Ctx} {X : Nat → Option Obj} {s : List (Nat × LV)} {bx : List (Nat × Option Box)} {k : Nat}
theorem sc_shut {Mid : St → Prop} {cs : List Cp} {H : Nat → Option Obj} {cells sp : List Value} (hO : OwnedM C X H) (G : Twigs H 125 3 [] cells (cs.map fun c => flV c.fs)) (hb : InB cs)
    (h : Leads n C Mid ⟨s, scB k cs :: bx, X⟩) : Leads n C Mid ⟨s, (k, some ⟨86, (rowsZ cs cells ++ sp).map .val, false⟩) :: bx, joinM X H⟩ := by
  refine Leads.closeRes (vals := rowsZ cs cells ++ sp) hO (fun ρ fr h1 h2 h3 => ?_) h
  refine ⟨_, fr, cells, sp, withBlock_at _ _ _, ?_, ?_, ?_, hb⟩
  · rw [h3]; simp
  · simp
  · rw [cut_with h1]; exact G
end
variable (X : Nat → Option Obj)
abbrev kcSt (ver : Int) (ad : Option Addr) (n cap i : Nat) (rows : List Value) (Y : Nat → Option Obj) : St :=
  ⟨[(1, Lp 1), (2, Lp 2), (3, .sv (.one (.slc 9 0 n 3))), (11, Lx ad n cap), (12, Ln .i64 (n : Nat)), (13, Ln .i64 (i : Nat))], [(9, some ⟨86, rows.map .val, false⟩), sxB 1 ver ad n cap, (2, some ⟨24, [.val (.int .i64 0), .val (.slice none 0 0)], false⟩)], Y⟩
set_option maxHeartbeats 6400000 in
theorem pCloneBig (ver : Int) (ad : Option Addr) (cap : Nat) (cs : List Cp) (hin : CompsIn X ad cs) (hn : cs.length ≤ 65536) (hfb0 : ∀ c ∈ cs, c.fs.length ≤ 4398046511104) : MSpec Tryz.prog X 55 [Sx ver ad cs.length cap] [] (.sv (.agg [.val (.int .i64 ver), .slc 1000001 0 cs.length 3])) [scB 1000001 cs] := by
  refine MSpec.intro Tryz.func55 rfl (by kernel_rfl) rfl rfl (by exact (by repeat' (first | refine all_cons_true ?_ ?_ | rfl | exact bytes_inUse | exact vals_inUse | exact mid_inUse rfl))) rfl rfl ?_
  intro C
  have hInb : InB cs := fun c hc => by
    obtain ⟨i, hi⟩ := List.mem_iff_getElem?.1 hc
    obtain ⟨_, _, _, _, _, _, _, _, _, _, _, _, _, _, hF⟩ := hin.get hi
    exact ⟨hin.small c hc, hF.small⟩
  have hmk : slcBuild Tryz.prog 22 cs.length = some (zer cs.length, 3, 86) := slcBuild_many (z := #[.int .i64 0, .string ⟨#[]⟩, .slice none 0 0]) (by kernel_rfl) (by kernel_rfl) rfl (by omega)
  refine LWP.ends ?_
  (refine LWP.seq <| rgN <| K.box rfl rfl rfl .plain <| K.alloc rfl .plain ?_; refine RunK.nil <| LWP.seq <| rgN <| kfa rfl rfl ?_; refine kl1 rfl rfl rfl <| K.lenX rfl SliceT.h rfl .plain ?_; refine K.makeSlc (m := cs.length) (bytes := 48) rfl rfl hmk (by kernel_rfl) (by omega) rfl rfl .plain <| kas rfl <| RunK.nil <| LWP.seq <| LWP.seq <| rgN <| kfa rfl rfl ?_; refine kl1 rfl rfl rfl <| K.lenX rfl SliceT.h rfl .plain ?_; refine kmv rfl <| RunK.nil <| LWP.block ?_)
  refine LWP.loopL (fun m σ => ∃ (i : Nat) (cells : List Value) (H : Nat → Option Obj), i ≤ cs.length ∧ m = cs.length - i ∧ OwnedM C X H ∧ Twigs H 125 3 [] cells ((cs.take i).map fun c => flV c.fs) ∧ σ = kcSt ver ad cs.length cap i (rowsZ (cs.take i) cells ++ zer (cs.length - i)) (joinM X H)) cs.length
    (Leads.le (σ' := kcSt ver ad cs.length cap 0 (rowsZ (cs.take 0) [] ++ zer (cs.length - 0)) X) ?_ (Leads.done ⟨0, [], fun _ => none, by omega, by omega, OwnedM.nil _ _, Twigs.nil _ _ _ _, rfl⟩)) ?_
  · exact Le.of (by exact ⟨rfl, rfl, rfl, rfl, rfl, rfl, trivial⟩) (by exact ⟨rfl, rfl, rfl, trivial⟩) (by exact rfl) (by exact rfl) (by repeat' (first | refine all_cons_true ?_ ?_ | rfl | exact bytes_inUse | exact vals_inUse | exact mid_inUse rfl))
  rintro m σ ⟨i, cells, H, hi, rfl, hO, G, rfl⟩
  have hcl : cells.length = i := by rw [G.len, List.length_map, List.length_take]; omega
  by_cases hlt : i < cs.length
  · obtain ⟨c, hc⟩ : ∃ c, cs[i]? = some c := ⟨_, List.getElem?_eq_getElem hlt⟩
    obtain ⟨blk, off, arr, el, fr, fad, fcap, rfl, hX, hsz, hcs, _, _, _, hF⟩ := hin.get hc
    have hio : off + Int.toNat (i : Int) * 3 = off + i * 3 := by simp
    have hix : 0 + Int.toNat (i : Int) * 3 = i * 3 := by rw [Int.toNat_natCast]; omega
    have hX1 : joinM X H blk = some (.cells arr el fr) := joinM_has hO hX
    have hpl : (rowsZ (cs.take i) cells).length = i * 3 := by rw [rowsZ_len (by rw [hcl, List.length_take]; omega), List.length_take, Nat.min_eq_left (by omega)]
    have hFY := hF.mono (Y := joinM X H) fun b o h => joinM_has hO h
    have hfb := hfb0 c (List.mem_of_getElem? hc)
    have hroom : i * 3 + 3 ≤ ((rowsZ (cs.take i) cells ++ zer (cs.length - i)).map CV.val).length := by rw [List.length_map, List.length_append, hpl, zer_len]; omega
    have hspl : ∀ cv : CV, splice ((rowsZ (cs.take i) cells ++ zer (cs.length - i)).map CV.val) (i * 3) [.val (.int .i64 c.id), .val (.string ⟨c.nm.toArray⟩), cv] = (rowsZ (cs.take i) cells ++ [Value.int .i64 c.id, Value.string ⟨c.nm.toArray⟩]).map CV.val ++ cv :: (zer (cs.length - (i + 1))).map .val := fun cv => by
      unfold splice
      rw [show cs.length - i = (cs.length - (i + 1)) + 1 by omega, zer_succ]
      simp only [List.map_append, List.append_assoc]
      have hml : ((rowsZ (cs.take i) cells).map CV.val).length = i * 3 := by rw [List.length_map, hpl]
      generalize (rowsZ (cs.take i) cells).map CV.val = R at *
      rw [← hml, List.take_left, List.drop_length_add_append]
      simp
    cases fad with
    | none =>
      have hf0 := hF.none
      have hq := cclone_nil (joinM X H) c fcap hf0
      have hl0 : c.fs.length = 0 := by rw [hf0]; rfl
      have hm0 : rowsZ (cs.take (i + 1)) (cells ++ [.slice none 0 0]) = rowsZ (cs.take i) cells ++ [.int .i64 c.id, .string ⟨c.nm.toArray⟩, .slice none 0 0] := rowsZ_snoc hcl hc
      (refine LWP.seq <| rgN <| klt rfl rfl (decide_eq_true (by omega)) <| RunK.nil <| LWP.seq <| LWP.condT rfl ?_; refine LWP.skip ?_; refine LWP.seq <| LWP.block <| LWP.seq <| rgN <| kmv rfl <| K.indexX rfl rfl SliceT.h (by omega) hio .plain <| K.loadXagg rfl hX1 (by kernel_rfl) hsz hcs .plain <| K.alloc rfl .plain ?_; refine kas rfl <| K.storeAll rfl rfl rfl rfl rfl rfl .plain ?_; refine RunK.nil <| rgN <| kmv rfl <| kmv rfl <| K.loadAll rfl rfl rfl .plain ?_; refine kca rfl rfl hq <| K.indexSlc rfl rfl (by omega) hix .plain ?_; refine K.store rfl rfl rfl rfl (by kernel_rfl) hroom (hspl (.val (.slice none c.fs.length 0))) .plain <| RunK.nil <| rgN <| kad rfl rfl (wrap_i64 (by omega)) <| kmv rfl <| RunK.nil ?_)
      refine Leads.le (σ' := kcSt ver (some ⟨blk, off, none⟩) cs.length cap (i + 1) (rowsZ (cs.take (i + 1)) (cells ++ [.slice none 0 0]) ++ zer (cs.length - (i + 1))) (joinM X H)) ?_ (Leads.done ⟨cs.length - (i + 1), by omega, i + 1, cells ++ [.slice none 0 0], H, by omega, rfl, hO, ?_, rfl⟩)
      · have hcell : (rowsZ (cs.take i) cells ++ [Value.int .i64 c.id, Value.string ⟨c.nm.toArray⟩]).map CV.val ++ .val (.slice none c.fs.length 0) :: (zer (cs.length - (i + 1))).map .val = (rowsZ (cs.take (i + 1)) (cells ++ [.slice none 0 0]) ++ zer (cs.length - (i + 1))).map .val := by rw [hm0, hl0]; simp
        rw [hcell]
        exact Le.of (by exact ⟨rfl, rfl, rfl, rfl, rfl, rfl, trivial⟩) (by exact ⟨rfl, rfl, rfl, trivial⟩) (by exact rfl) (by exact rfl) (by repeat' (first | refine all_cons_true ?_ ?_ | rfl | exact bytes_inUse | exact vals_inUse | exact mid_inUse rfl))
      · have G2 := G.pushZ none 0
        rw [take_snoc hc, List.map_append, List.map_cons, List.map_nil, show flV c.fs = [] by rw [hf0]; rfl]
        exact G2
    | some fa =>
      have hq := cclone_some (joinM X H) c fa fcap hFY hfb
      (refine LWP.seq <| rgN <| klt rfl rfl (decide_eq_true (by omega)) <| RunK.nil <| LWP.seq <| LWP.condT rfl ?_; refine LWP.skip ?_; refine LWP.seq <| LWP.block <| LWP.seq <| rgN <| kmv rfl <| K.indexX rfl rfl SliceT.h (by omega) hio .plain <| K.loadXagg rfl hX1 (by kernel_rfl) hsz hcs .plain <| K.alloc rfl .plain ?_; refine kas rfl <| K.storeAll rfl rfl rfl rfl rfl rfl .plain ?_; refine RunK.nil <| rgN <| kmv rfl <| kmv rfl <| K.loadAll rfl rfl rfl .plain ?_; refine K.callMp [(1000001, 20)] (.sv (SCs c 20)) [fdB 20 c.fs] (hq) rfl rfl (by exact trivial) rfl rfl rfl rfl rfl (by exact (.box rfl (Box.ren_vals _ _ _ _) .nil)) .plain <| K.indexSlc rfl rfl (by omega) hix .plain ?_; refine K.store rfl rfl rfl rfl (by kernel_rfl) hroom (hspl (.slc 20 0 c.fs.length 3)) .plain <| RunK.nil <| rgN <| kad rfl rfl (wrap_i64 (by omega)) <| kmv rfl <| RunK.nil ?_)
      refine Leads.le (σ' := ⟨[(1, Lp 1), (2, Lp 2), (3, .sv (.one (.slc 9 0 cs.length 3))), (11, Lx (some ⟨blk, off, none⟩) cs.length cap), (12, Ln .i64 (cs.length : Nat)), (13, Ln .i64 (i + 1 : Nat))], [(9, some ⟨86, (rowsZ (cs.take i) cells ++ [Value.int .i64 c.id, Value.string ⟨c.nm.toArray⟩]).map .val ++ .slc 20 0 c.fs.length 3 :: (zer (cs.length - (i + 1))).map .val, false⟩), (20, some ⟨125, (flV c.fs).map .val, true⟩), sxB 1 ver (some ⟨blk, off, none⟩) cs.length cap, (2, some ⟨24, [.val (.int .i64 0), .val (.slice none 0 0)], false⟩)], joinM X H⟩) (Le.of (by exact ⟨rfl, rfl, rfl, rfl, rfl, rfl, trivial⟩) (by exact ⟨rfl, rfl, rfl, rfl, trivial⟩) (by exact rfl) (by exact rfl) (by repeat' (first | refine all_cons_true ?_ ?_ | rfl | exact bytes_inUse | exact vals_inUse | exact mid_inUse rfl))) ?_
      refine Leads.closeCell hO (flV_len _) rfl vals_inUse vals_inUse rfl rfl rfl fun b o v g1 _ hO3 hv => Leads.done ⟨cs.length - (i + 1), by omega, i + 1, cells ++ [v], withBlock H b o, by omega, rfl, hO3, ?_, ?_⟩
      · rw [take_snoc hc, List.map_append, List.map_cons, List.map_nil]
        by_cases hf0 : flV c.fs = []
        · rw [hf0] at hv ⊢
          obtain ⟨len, cap', arr, fr, rfl, h2, _⟩ := hv
          have e0 : len = 0 := by rw [List.length_nil] at h2; omega
          subst e0
          exact (G.more g1).pushZ _ _
        · exact G.push g1 hv hf0
      · rw [rowsZ_snoc hcl hc]
        unfold kcSt
        simp
  · have e : i = cs.length := by omega
    subst e
    rw [List.take_length] at *
    (refine LWP.seq <| rgN <| klt rfl rfl (decide_eq_false (by omega)) <| RunK.nil <| LWP.seq <| LWP.condF rfl ?_; refine LWP.exit <| LWP.seq <| rgN <| kfa rfl rfl ?_; refine kl1 rfl rfl rfl <| kmv rfl <| K.build rfl rfl (by exact rfl) (by exact nl2 rfl rfl rfl) .plain ?_; refine K.storeAll rfl rfl rfl rfl rfl rfl .plain ?_; refine RunK.nil <| LWP.ret ?_)
    refine Leads.le (σ' := ⟨[(2, Lp 2)], [(9, some ⟨86, (rowsZ cs cells ++ []).map .val, false⟩), (2, some ⟨24, [.val (.int .i64 ver), .slc 9 0 cs.length 3], false⟩)], joinM X H⟩) (by rw [Nat.sub_self]; exact Le.of (by exact ⟨rfl, trivial⟩) (by exact ⟨rfl, rfl, trivial⟩) (by exact rfl) (by exact rfl) (by repeat' (first | refine all_cons_true ?_ ?_ | rfl | exact bytes_inUse | exact vals_inUse | exact mid_inUse rfl))) ?_
    refine sc_shut hO G hInb (Leads.done ?_)
    exact ⟨[(1000001, 9)], ⟨[_], ⟨⟨_, _, rfl, rfl, rfl, .inl ⟨AggT.h, rfl⟩⟩, trivial⟩, rfl⟩, (by repeat' (first | exact trivial | refine And.intro ⟨_, rfl, ?_⟩ ?_ | refine And.intro ⟨_, rfl⟩ ?_ | rfl | exact Box.ren_bytes _ _ _ _ | exact Box.ren_vals _ _ _ _ | exact Box.ren_mid rfl)), rfl, rfl⟩
theorem fit_lent {S : Nat → Option (Option Box)} {k : Nat} {fs : List Fl} {vad : Option Addr} {vcap : Nat} {ns : List (Bool × Int)} {el : TypeId} {row : Bool} {e : Int} (hs : ∀ f ∈ fs, (-9223372036854775808 ≤ f.kind ∧ f.kind < 9223372036854775808) ∧ (-9223372036854775808 ≤ f.count ∧ f.count < 9223372036854775808)) (hbig : fs.length < 4611686018427387904) (hns : NumsIn X vad ns)
    (hk : S k = some (some ⟨el, (flV fs).map .val, row⟩)) (he : fitErr fs ns = e) :
    ∀ (Y : Nat → Option Obj) (us : List Value), (∀ b o, X b = some o → Y b = some o) → LentLs S Y [.sv (.one (.slc k 0 fs.length 3)), Lx vad ns.length vcap] us → PSpec Tryz.prog Y 82 (us.map toLV) (Ln .i64 e) := by
  intro Y us hY hL
  obtain ⟨u1, us1, rfl, h1, u2, us2, rfl, h2, rfl⟩ := hL
  have h2 : u2 = .slice vad ns.length vcap := h2
  subst h2
  obtain ⟨fa, fcap, rfl, hF⟩ := lent_fields hk hs h1
  subst he
  exact lFit_any Y (some fa) vad fcap vcap fs ns hF hbig ⟨hns.rows.mono hY, hns.in2⟩
theorem pPartBig (ver : Int) (ad vad : Option Addr) (cap vcap : Nat) (cs : List Cp) (p : Pt) (hin : CompsIn X ad cs) (hbig : cs.length < 4611686018427387904) (hfs : ∀ c ∈ cs, c.fs.length ≤ 4398046511104) (hns : NumsIn X vad p.val) (e : Int) (he : partE cs p = e) :
    PSpec Tryz.prog X 102 [Sx ver ad cs.length cap, Px p vad vcap] (Ln .i64 e) := by
  subst he
  refine PSpec.intro Tryz.func102 rfl (by kernel_rfl) rfl rfl ?_
  intro C
  unfold partE
  rcases find_cases cs p.comp with ⟨i, c, hc, he, hpre⟩ | hno
  · rw [find_at hpre hc he]
    have hfb := hfs c (List.mem_of_getElem? hc)
    rcases pFind X ver ad cap cs p.comp hin hbig hfs hpre hc he with ⟨h0, hF⟩ | hF
    · have hR := lFit_any X none vad 0 vcap c.fs p.val (fields_none h0) (by omega) hns
      simp only
      generalize fitErr c.fs p.val = e at *
      (refine LWP.seq <| rgN <| K.box rfl rfl rfl .plain <| K.box rfl rfl rfl .plain <| kas rfl <| RunK.nil <| LWP.seq <| rgN <| K.loadAll rfl rfl rfl .plain ?_; refine kfa rfl rfl ?_; refine kl1 rfl rfl rfl <| kca rfl rfl hF <| kmv rfl <| kex rfl rfl <| kex rfl rfl <| K.alloc rfl .plain ?_; refine K.storeAll rfl rfl rfl rfl rfl rfl .plain ?_; refine kas rfl <| RunK.nil <| LWP.seq <| LWP.seq <| rgN <| kmv rfl <| K.not rfl rfl .plain <| RunK.nil <| LWP.condF rfl ?_; refine LWP.skip ?_; refine LWP.seq <| rgN <| kfa rfl rfl ?_; refine kl1 rfl rfl rfl <| kfa rfl rfl ?_; refine kl1 rfl rfl rfl <| kca rfl rfl (hR) <| kas rfl <| RunK.nil <| LWP.ret ?_)
      exact ⟨[_], ⟨rfl, trivial⟩, rfl⟩
    · obtain ⟨_, _, _, _, _, _, _, _, _, _, _, _, _, _, hFs⟩ := hin.get hc
      have hR := fun (S : Nat → Option (Option Box)) (hk : S 20 = some (some ⟨125, (flV c.fs).map .val, true⟩)) => fit_lent X (S := S) (k := 20) (vcap := vcap) hFs.small (by omega) hns hk rfl
      simp only
      generalize fitErr c.fs p.val = e at *
      (refine LWP.seq <| rgN <| K.box rfl rfl rfl .plain <| K.box rfl rfl rfl .plain <| kas rfl <| RunK.nil <| LWP.seq <| rgN <| K.loadAll rfl rfl rfl .plain ?_; refine kfa rfl rfl ?_; refine kl1 rfl rfl rfl <| K.callMp [(1000001, 20)] (.tup [SCs c 20, Sb true]) [fdB 20 c.fs] (hF) rfl rfl (by exact trivial) rfl rfl rfl rfl rfl (by exact (.box rfl (Box.ren_vals _ _ _ _) .nil)) .plain <| kmv rfl <| kex rfl rfl <| kex rfl rfl <| K.alloc rfl .plain ?_; refine K.storeAll rfl rfl rfl rfl rfl rfl .plain ?_; refine kas rfl <| RunK.nil <| LWP.seq <| LWP.seq <| rgN <| kmv rfl <| K.not rfl rfl .plain <| RunK.nil <| LWP.condF rfl ?_; refine LWP.skip ?_; refine LWP.seq <| rgN <| kfa rfl rfl ?_; refine kl1 rfl rfl rfl <| kfa rfl rfl ?_; refine kl1 rfl rfl rfl <| K.callL [20] rfl rfl rfl (hR _ rfl) .plain ?_; refine kas rfl <| RunK.nil <| LWP.ret ?_)
      exact ⟨[_], ⟨rfl, trivial⟩, rfl⟩
  · rw [find_no hno]
    have hF := pFind_no X ver ad cap cs p.comp hin hbig hno
    (refine LWP.seq <| rgN <| K.box rfl rfl rfl .plain <| K.box rfl rfl rfl .plain <| kas rfl <| RunK.nil <| LWP.seq <| rgN <| K.loadAll rfl rfl rfl .plain ?_; refine kfa rfl rfl ?_; refine kl1 rfl rfl rfl <| kca rfl rfl hF <| kmv rfl <| kex rfl rfl <| kex rfl rfl <| K.alloc rfl .plain ?_; refine K.storeAll rfl rfl rfl rfl rfl rfl .plain ?_; refine kas rfl <| RunK.nil <| LWP.seq <| LWP.seq <| rgN <| kmv rfl <| K.not rfl rfl .plain <| RunK.nil <| LWP.condT rfl ?_; refine LWP.seq <| rgN <| kas rfl <| RunK.nil <| LWP.ret ?_)
    exact ⟨[_], ⟨rfl, trivial⟩, rfl⟩
abbrev idBx (k : Nat) (ns : List Int) : Nat × Option Box := (k, some ⟨0, [], .res (mapR Tryz.prog 3 (idM ns))⟩)
set_option maxHeartbeats 3200000 in
theorem pPartsBig (ver : Int) (ad pad : Option Addr) (cap pcap : Nat) (cs : List Cp) (ps : List Pt) (hin : CompsIn X ad cs) (hbig : cs.length < 4611686018427387904) (hfs : ∀ c ∈ cs, c.fs.length ≤ 4398046511104) (hps : PartsIn X pad ps) (hpb : ps.length < 4611686018427387904) (e : Int) (he : partsE cs ps = e) :
    PSpec Tryz.prog X 79 [Sx ver ad cs.length cap, Lx pad ps.length pcap] (Ln .i64 e) := by
  subst he
  refine PSpec.intro Tryz.func79 rfl (by kernel_rfl) rfl rfl ?_
  intro C
  (refine LWP.seq <| rgN <| K.box rfl rfl rfl .plain <| kas rfl <| RunK.nil <| LWP.seq <| rgN <| K.makeMap 3 rfl .plain ?_; refine kas rfl <| RunK.nil <| LWP.seq <| LWP.seq <| rgN <| kmv rfl <| K.lenX rfl SliceT.h rfl .plain ?_; refine kmv rfl <| RunK.nil <| LWP.block ?_)
  refine LWP.loop (fun m σ => ∃ i : Nat, i ≤ ps.length ∧ m = ps.length - i ∧ (∀ j, 0 ≤ j → j < i → ptE cs ps j = 0) ∧ σ = ⟨[(2, Lp 2), (5, Lmp 11), (12, Lx pad ps.length pcap), (13, Ln .i64 (ps.length : Nat)), (14, Ln .i64 (i : Nat))], [sxB 2 ver ad cs.length cap, idBx 11 ((ps.take i).map Pt.comp)], X⟩) ps.length
    ⟨_, Le.of (by exact ⟨rfl, rfl, rfl, rfl, rfl, trivial⟩) (by exact ⟨rfl, rfl, trivial⟩) (by exact rfl) (by exact rfl) (by repeat' (first | refine all_cons_true ?_ ?_ | rfl | exact bytes_inUse | exact vals_inUse | exact mid_inUse rfl)), 0, by omega, by omega, fun j _ hj => absurd hj (by omega), rfl⟩ ?_
  rintro m σ ⟨i, hi, rfl, hpre, rfl⟩
  by_cases hlt : i < ps.length
  · obtain ⟨p, hp⟩ : ∃ p, ps[i]? = some p := ⟨_, List.getElem?_eq_getElem hlt⟩
    obtain ⟨blk, off, arr, el, fr, vad, vcap, rfl, hX, hsz, hcs, _, _, hN⟩ := hps.get hp
    have hio : off + Int.toNat (i : Int) * 2 = off + i * 2 := by simp
    have hE := ptE_at (cs := cs) hp
    have hsm := hps.small p (List.mem_of_getElem? hp)
    have hkey : Go.keyOf Tryz.prog 3 (.int .i64 p.comp) = some (.int .i64 p.comp) := by
      rw [keyOf_int (q := .i64) (by kernel_rfl)]
      unfold mapKey
      rw [show Tryz.prog.underlying 3 = some (.int .i64) by kernel_rfl]
      have hw : (Lit.int .i64 p.comp).wf = true := by
        show (decide (IntKind.i64.min ≤ p.comp) && decide (p.comp ≤ IntKind.i64.max)) = true
        rw [show IntKind.i64.min = -9223372036854775808 from rfl, show IntKind.i64.max = 9223372036854775807 from rfl, decide_eq_true hsm.1, decide_eq_true (show p.comp ≤ 9223372036854775807 by omega)]; rfl
      simp [hw]
    have hat := idM_at ((ps.take i).map Pt.comp) p.comp
    have hP := pPartBig X ver ad vad cap vcap cs p hin hbig hfs hN (partE cs p) rfl
    have hany : ((ps.take i).map Pt.comp).any (fun m => m == p.comp) = (ps.take i).any (fun g => g.comp == p.comp) := by rw [List.any_map]; rfl
    have hts : (ps.take (i + 1)).map Pt.comp = (ps.take i).map Pt.comp ++ [p.comp] := by rw [take_snoc hp, List.map_append]; rfl
    cases hin2 : (ps.take i).any (fun g => g.comp == p.comp) with
    | true =>
      rw [hin2] at hE hany
      rw [if_pos rfl] at hE
      rw [show partsE cs ps = 1 from firstE_some hpre (Nat.zero_le _) (by omega) hE (by decide)]
      have hr := idM_any _ p.comp true hany
      generalize (ps.take i).map Pt.comp = ns at *
      (refine LWP.seq <| rgN <| klt rfl rfl (decide_eq_true (by omega)) <| RunK.nil <| LWP.seq <| LWP.condT rfl ?_; refine LWP.skip ?_; refine LWP.seq <| LWP.block <| LWP.seq <| rgN <| K.indexX rfl rfl SliceT.h (by omega) hio .plain <| K.loadXagg rfl hX (by kernel_rfl) hsz hcs .plain <| K.alloc rfl .plain ?_; refine K.storeAll rfl rfl rfl rfl rfl rfl .plain ?_; refine RunK.nil <| LWP.seq <| LWP.seq <| rgN <| kmv rfl <| kfa rfl rfl ?_; refine kl1 rfl rfl rfl <| K.lookupOk (et := 166) (.agg []) (v := .agg #[]) (z := .agg #[]) rfl rfl rfl (by kernel_rfl) (KL.int (q := .i64) (by kernel_rfl)) hkey (by kernel_rfl) hat agg0_rel hr .plain ?_; refine kmv rfl <| kex rfl rfl <| kex rfl rfl <| K.alloc rfl .plain ?_; refine K.storeAll rfl rfl rfl rfl rfl rfl .plain ?_; refine kas rfl <| RunK.nil <| LWP.seq <| rgN <| kmv rfl <| RunK.nil <| LWP.condT rfl ?_; refine LWP.seq <| rgN <| kas rfl <| RunK.nil <| LWP.ret ?_)
      exact ⟨[_], ⟨rfl, trivial⟩, rfl⟩
    | false =>
      rw [hin2] at hE hany
      rw [if_neg (by decide)] at hE
      have hr := idM_any _ p.comp false hany
      have hput := idM_put hany
      rw [← hts] at hput
      generalize (ps.take i).map Pt.comp = ns at *
      generalize hns : (ps.take (i + 1)).map Pt.comp = ns' at *
      by_cases he0 : partE cs p = 0
      · rw [he0] at hP hE
        (refine LWP.seq <| rgN <| klt rfl rfl (decide_eq_true (by omega)) <| RunK.nil <| LWP.seq <| LWP.condT rfl ?_; refine LWP.skip ?_; refine LWP.seq <| LWP.block <| LWP.seq <| rgN <| K.indexX rfl rfl SliceT.h (by omega) hio .plain <| K.loadXagg rfl hX (by kernel_rfl) hsz hcs .plain <| K.alloc rfl .plain ?_; refine K.storeAll rfl rfl rfl rfl rfl rfl .plain ?_; refine RunK.nil <| LWP.seq <| LWP.seq <| rgN <| kmv rfl <| kfa rfl rfl ?_; refine kl1 rfl rfl rfl <| K.lookupOk (et := 166) (.agg []) (v := .agg #[]) (z := .agg #[]) rfl rfl rfl (by kernel_rfl) (KL.int (q := .i64) (by kernel_rfl)) hkey (by kernel_rfl) hat agg0_rel hr .plain ?_; refine kmv rfl <| kex rfl rfl <| kex rfl rfl <| K.alloc rfl .plain ?_; refine K.storeAll rfl rfl rfl rfl rfl rfl .plain ?_; refine kas rfl <| RunK.nil <| LWP.seq <| rgN <| kmv rfl <| RunK.nil <| LWP.condF rfl ?_; refine LWP.skip ?_; refine LWP.seq <| rgN <| kmv rfl <| kfa rfl rfl ?_; refine kl1 rfl rfl rfl <| K.build rfl rfl (by exact rfl) (by exact nl0 rfl) .plain ?_; refine K.mapPut (et := 166) (idM ns') rfl rfl rfl rfl (by kernel_rfl) (KL.int (q := .i64) (by kernel_rfl)) hkey hput .plain ?_; refine RunK.nil <| LWP.seq <| rgN <| K.loadAll rfl rfl rfl .plain ?_; refine K.loadAll rfl rfl rfl .plain ?_; refine kca rfl rfl hP <| kas rfl <| RunK.nil <| LWP.seq <| rgN <| kmv rfl <| kne rfl rfl ((bne_eq_false_iff_eq.2 (by omega))) <| RunK.nil <| LWP.condF rfl ?_; refine LWP.skip ?_; refine rgN <| kad rfl rfl (wrap_i64 (by omega)) <| kmv rfl <| RunK.nil ?_)
        subst hns
        exact ⟨_, _, by omega, Le.of (by exact ⟨rfl, rfl, rfl, rfl, rfl, trivial⟩) (by exact ⟨rfl, rfl, trivial⟩) (by exact rfl) (by exact rfl) (by repeat' (first | refine all_cons_true ?_ ?_ | rfl | exact bytes_inUse | exact vals_inUse | exact mid_inUse rfl)), i + 1, by omega, rfl, (fun j h0 hj => by
          by_cases e : j = i
          · rw [e]; exact hE
          · exact hpre j h0 (by omega)), rfl⟩
      · rw [show partsE cs ps = partE cs p from firstE_some hpre (Nat.zero_le _) (by omega) hE he0]
        have hne : (partE cs p != 0) = true := by rw [bne_iff_ne]; exact he0
        generalize partE cs p = E at *
        (refine LWP.seq <| rgN <| klt rfl rfl (decide_eq_true (by omega)) <| RunK.nil <| LWP.seq <| LWP.condT rfl ?_; refine LWP.skip ?_; refine LWP.seq <| LWP.block <| LWP.seq <| rgN <| K.indexX rfl rfl SliceT.h (by omega) hio .plain <| K.loadXagg rfl hX (by kernel_rfl) hsz hcs .plain <| K.alloc rfl .plain ?_; refine K.storeAll rfl rfl rfl rfl rfl rfl .plain ?_; refine RunK.nil <| LWP.seq <| LWP.seq <| rgN <| kmv rfl <| kfa rfl rfl ?_; refine kl1 rfl rfl rfl <| K.lookupOk (et := 166) (.agg []) (v := .agg #[]) (z := .agg #[]) rfl rfl rfl (by kernel_rfl) (KL.int (q := .i64) (by kernel_rfl)) hkey (by kernel_rfl) hat agg0_rel hr .plain ?_; refine kmv rfl <| kex rfl rfl <| kex rfl rfl <| K.alloc rfl .plain ?_; refine K.storeAll rfl rfl rfl rfl rfl rfl .plain ?_; refine kas rfl <| RunK.nil <| LWP.seq <| rgN <| kmv rfl <| RunK.nil <| LWP.condF rfl ?_; refine LWP.skip ?_; refine LWP.seq <| rgN <| kmv rfl <| kfa rfl rfl ?_; refine kl1 rfl rfl rfl <| K.build rfl rfl (by exact rfl) (by exact nl0 rfl) .plain ?_; refine K.mapPut (et := 166) (idM ns') rfl rfl rfl rfl (by kernel_rfl) (KL.int (q := .i64) (by kernel_rfl)) hkey hput .plain ?_; refine RunK.nil <| LWP.seq <| rgN <| K.loadAll rfl rfl rfl .plain ?_; refine K.loadAll rfl rfl rfl .plain ?_; refine kca rfl rfl hP <| kas rfl <| RunK.nil <| LWP.seq <| rgN <| kmv rfl <| kne rfl rfl hne <| RunK.nil <| LWP.condT rfl ?_; refine LWP.seq <| rgN <| kmv rfl <| kas rfl <| RunK.nil <| LWP.ret ?_)
        exact ⟨[_], ⟨rfl, trivial⟩, rfl⟩
  · rw [show partsE cs ps = 0 from firstE_none fun j h0 hj => hpre j h0 (by omega)]
    (refine LWP.seq <| rgN <| klt rfl rfl (decide_eq_false (by omega)) <| RunK.nil <| LWP.seq <| LWP.condF rfl ?_; refine LWP.exit <| LWP.seq <| rgN <| kas rfl <| RunK.nil <| LWP.ret ?_)
    exact ⟨[_], ⟨rfl, trivial⟩, rfl⟩
end Go.Proofs.YtbpdbclndfmcgaaGreatDoor
end
section
namespace Go.Lg.Fld
open Go Go.Lg
theorem any_at {α : Type} {p : α → Bool} {l : List α} {i : Nat} {x : α} (h : l[i]? = some x) (hp : p x = true) : l.any p = true := List.any_eq_true.2 ⟨x, List.mem_of_getElem? h, hp⟩
theorem any_no {α : Type} {p : α → Bool} {l : List α} (h : ∀ (j : Nat) (y : α), l[j]? = some y → p y = false) : l.any p = false := by
  rw [List.any_eq_false]
  intro y hy
  obtain ⟨j, hj⟩ := List.mem_iff_getElem?.1 hy
  rw [h j y hj]; simp
end Go.Lg.Fld
namespace Go.Proofs.YtbpdbclndfmcgaaGreatDoor
open Go Go.Lg Go.Lg.Fld
set_option maxRecDepth 100000
variable (X : Nat → Option Obj)
def cs0 : List Cp := [⟨1, [112, 111, 115], [⟨[120], 3, 1⟩, ⟨[121], 3, 1⟩]⟩, ⟨3, [116, 97, 103], []⟩]
end Go.Proofs.YtbpdbclndfmcgaaGreatDoor
end
section
namespace Go.Lg.Fld
open Go Go.Lg
def Scan {α : Type} (p : α → Bool) (l : List α) (k : Nat) (v : Int) : Prop := (v = -1 ∧ ∀ (m : Nat) (y : α), k ≤ m → l[m]? = some y → p y = false) ∨ ∃ (i : Nat) (c : α), v = (i : Nat) ∧ l[i]? = some c ∧ p c = true ∧ ∀ (m : Nat) (y : α), k ≤ m → m < i → l[m]? = some y → p y = false
end Go.Lg.Fld
namespace Go.Proofs.YtbpdbclndfmcgaaGreatDoor
open Go Go.Lg Go.Lg.Fld
set_option maxRecDepth 100000
variable (X : Nat → Option Obj)
end Go.Proofs.YtbpdbclndfmcgaaGreatDoor
end
section
namespace Go.Lg.Fld
open Go Go.Lg
structure Good (cs : List Cp) : Prop where
  one : ∀ (i : Nat) (c : Cp), cs[i]? = some c → 1 ≤ c.id ∧ c.id ≤ 24 ∧ nmB c.nm = true ∧ firstE (fldE c.fs) 0 c.fs.length = 0 ∧ layErr c.fs = 0
  two : ∀ (i j : Nat) (c d : Cp), i < j → cs[i]? = some c → cs[j]? = some d → c.id < d.id ∧ c.nm ≠ d.nm
theorem good_of {cs : List Cp} (h : firstE (cmpE cs) 0 cs.length = 0) : Good cs := by
  have h0 : ∀ (i : Nat) (c : Cp), cs[i]? = some c → ¬(c.id < 1 ∨ 24 < c.id ∨ (0 < i ∧ c.id ≤ prevId cs i)) ∧ nmB c.nm = true ∧ (cs.take i).any (fun g => g.nm == c.nm) = false ∧ firstE (fldE c.fs) 0 c.fs.length = 0 ∧ layErr c.fs = 0 := fun i c hc => by
    have hi := (List.getElem?_eq_some_iff.1 hc).1
    have h1 := firstE_zero h i (Nat.zero_le _) (by omega)
    rw [cmpE_at hc] at h1
    by_cases b1 : c.id < 1 ∨ 24 < c.id ∨ (0 < i ∧ c.id ≤ prevId cs i)
    · rw [if_pos b1] at h1; cases h1
    · rw [if_neg b1] at h1
      by_cases b2 : nmB c.nm = true
      · rw [if_pos b2] at h1
        by_cases b3 : (cs.take i).any (fun g => g.nm == c.nm) = true
        · rw [if_pos b3] at h1; cases h1
        · rw [if_neg b3] at h1
          by_cases b4 : firstE (fldE c.fs) 0 c.fs.length = 0
          · rw [if_pos b4] at h1
            exact ⟨b1, b2, by simpa using b3, b4, h1⟩
          · rw [if_neg b4] at h1; cases h1
      · rw [if_neg b2] at h1; cases h1
  refine ⟨fun i c hc => ?_, fun i j c d hij hc hd => ⟨?_, fun e => ?_⟩⟩
  · obtain ⟨h1, h2, _, h4, h5⟩ := h0 i c hc
    exact ⟨by omega, by omega, h2, h4, h5⟩
  · obtain ⟨k, rfl⟩ : ∃ k, j = i + 1 + k := ⟨j - (i + 1), by omega⟩
    induction k generalizing d with
    | zero =>
      obtain ⟨h1, _⟩ := h0 _ d hd
      have hp : cs[i + 1 + 0 - 1]? = some c := hc
      have := prev_at hp
      omega
    | succ k ih =>
      obtain ⟨d', hd'⟩ : ∃ d', cs[i + 1 + k]? = some d' := ⟨_, List.getElem?_eq_getElem (by have := (List.getElem?_eq_some_iff.1 hd).1; omega)⟩
      have h2 := ih d' (by omega) hd'
      obtain ⟨h1, _⟩ := h0 _ d hd
      have hp : cs[i + 1 + (k + 1) - 1]? = some d' := hd'
      have := prev_at hp
      omega
  · obtain ⟨_, _, h3, _⟩ := h0 j d hd
    have := any_true (p := fun g : Cp => g.nm == d.nm) hij hc (by rw [beq_iff_eq]; exact e)
    rw [h3] at this; cases this
end Go.Lg.Fld
end
section
namespace Go.Lg.Fld
open Go Go.Lg
def Less (x y : List UInt8 × Bool) : Prop := y.1.length ≤ x.1.length ∧ (x.2 = true → y.2 = true)
end Go.Lg.Fld
namespace Go.Proofs.YtbpdbclndfmcgaaGreatDoor
open Go Go.Lg Go.Lg.Fld
set_option maxRecDepth 100000
variable (X : Nat → Option Obj)
end Go.Proofs.YtbpdbclndfmcgaaGreatDoor
end
section
namespace Go.Lg.Fld
open Go Go.Lg
def SmallC8 (cs : List Cp) : Prop := cs.length ≤ 30 ∧ ∀ c ∈ cs, c.fs.length ≤ 12 ∧ c.nm.length ≤ 300 ∧ ∀ f ∈ c.fs, f.nm.length ≤ 300
end Go.Lg.Fld
namespace Go.Proofs.YtbpdbclndfmcgaaGreatDoor
open Go Go.Lg Go.Lg.Fld
set_option maxRecDepth 100000
variable (X : Nat → Option Obj)
end Go.Proofs.YtbpdbclndfmcgaaGreatDoor
end
section
namespace Go.Proofs.YtbpdbclndfmcgaaGreatDoor
open Go Go.Lg Go.Lg.Fld
set_option maxRecDepth 100000
def fsAt (cs : List Cp) (id : Int) : List Fl := match cs.find? (fun c => c.id == id) with | some c => c.fs | none => []
theorem partE_find {cs : List Cp} {p : Pt} (h : partE cs p = 0) : ∃ c, cs.find? (fun c => c.id == p.comp) = some c ∧ fitErr c.fs p.val = 0 := by
  unfold partE at h
  cases hf : cs.find? (fun c => c.id == p.comp) with
  | none => rw [hf] at h; cases h
  | some c => rw [hf] at h; exact ⟨c, rfl, h⟩
end Go.Proofs.YtbpdbclndfmcgaaGreatDoor
end
section
namespace Go.Lg.Sg
open Go Go.Lg
def nuV (l : List Int) : List Value := l.map (Value.int .i64 ·)
def NuIn (X : Nat → Option Obj) (ad : Option Addr) (l : List Int) : Prop := RowsIn X ad 1 (l.map fun n => [.int .i64 n])
theorem NuIn.at {X : Nat → Option Obj} {ad : Option Addr} {l : List Int} (h : NuIn X ad l) {i : Nat} {x : Int} (hx : l[i]? = some x) : ∃ (blk off : Nat) (arr : Array Value) (el : TypeId) (fr : Nat × Nat), ad = some ⟨blk, off, none⟩ ∧ X blk = some (.cells arr el fr) ∧ arr[off + i * 1]? = some (.int .i64 x) := by
  obtain ⟨blk, off, arr, el, fr, h1, h2, h3, h4⟩ := h i [.int .i64 x] (by rw [List.getElem?_map, hx]; rfl)
  refine ⟨blk, off, arr, el, fr, h1, h2, ?_⟩
  have := congrArg (fun l : List Value => l[0]?) h4
  simpa [List.getElem?_take, List.getElem?_drop] using this
theorem nu_flat (l : List Int) : (l.map fun n => [Value.int .i64 n]).flatten = nuV l := by
  unfold nuV
  induction l with
  | nil => rfl
  | cons x t ih => rw [List.map_cons, List.flatten_cons, ih]; rfl
end Go.Lg.Sg
end
section
namespace Go.Lg.Fld
open Go Go.Lg
structure Ch where
  kind : Int
  comp : Int
  fld : List UInt8
instance : DecidableEq Ch := fun a b => decidable_of_iff (a.kind = b.kind ∧ a.comp = b.comp ∧ a.fld = b.fld) ⟨fun ⟨h1, h2, h3⟩ => by cases a; cases b; simp_all, fun h => by rw [h]; exact ⟨rfl, rfl, rfl⟩⟩
def fldAt (fs : List Fl) (nm : List UInt8) : Option Fl := fs.find? fun f => f.nm == nm
def fldIx (fs : List Fl) (nm : List UInt8) : Int := findI (fun f => f.nm == nm) fs
theorem fldIx_some {fs : List Fl} {nm : List UInt8} (h : 0 ≤ fldIx fs nm) : ∃ (k : Nat) (g : Fl), fs[k]? = some g ∧ g.nm = nm ∧ fldIx fs nm = (k : Nat) ∧ fldAt fs nm = some g ∧ ∀ (j : Nat) (y : Fl), j < k → fs[j]? = some y → y.nm ≠ nm := by
  unfold fldIx findI at h
  cases hf : fs.findIdx? (fun f => f.nm == nm) with
  | none => rw [hf] at h; simp only at h; omega
  | some k =>
    obtain ⟨hk, h1, h2⟩ := List.findIdx?_eq_some_iff_getElem.1 hf
    refine ⟨k, fs[k], List.getElem?_eq_getElem hk, by simpa using h1, by unfold fldIx findI; rw [hf], ?_, fun j y hj hy => ?_⟩
    · unfold fldAt
      rw [List.find?_eq_some_iff_getElem]
      exact ⟨h1, k, hk, rfl, fun j hj => by simpa using h2 j hj⟩
    · obtain ⟨hj', e⟩ := List.getElem?_eq_some_iff.1 hy
      have := h2 j hj
      rw [e] at this
      simpa using this
end Go.Lg.Fld
end
section
namespace Go.Lg.Fld
open Go Go.Lg
def Apart (fs : List Fl) : Prop := fs.Pairwise fun f g => f.nm ≠ g.nm
theorem sorted_eq {α : Type} (key : α → Int) : ∀ {l1 l2 : List α}, l1.Pairwise (fun x y => key x < key y) → l2.Pairwise (fun x y => key x < key y) → (∀ x, x ∈ l1 ↔ x ∈ l2) → l1 = l2
  | [], [], _, _, _ => rfl
  | [], y :: _, _, _, h => by have := (h y).2 List.mem_cons_self; cases this
  | x :: _, [], _, _, h => by have := (h x).1 List.mem_cons_self; cases this
  | x :: t1, y :: t2, h1, h2, h => by
    obtain ⟨a1, b1⟩ := List.pairwise_cons.1 h1
    obtain ⟨a2, b2⟩ := List.pairwise_cons.1 h2
    have e : x = y := by
      rcases List.mem_cons.1 ((h x).1 List.mem_cons_self) with e | hx
      · exact e
      · rcases List.mem_cons.1 ((h y).2 List.mem_cons_self) with e | hy
        · exact e.symm
        · have := a1 y hy; have := a2 x hx; omega
    subst e
    rw [sorted_eq key b1 b2 fun z => ⟨fun hz => ?_, fun hz => ?_⟩]
    · rcases List.mem_cons.1 ((h z).1 (List.mem_cons_of_mem _ hz)) with e | h'
      · have := a1 z hz; rw [e] at this; omega
      · exact h'
    · rcases List.mem_cons.1 ((h z).2 (List.mem_cons_of_mem _ hz)) with e | h'
      · have := a2 z hz; rw [e] at this; omega
      · exact h'
end Go.Lg.Fld
end
section
namespace Go.Lg.Fld
open Go Go.Lg
def Ch.vals (x : Ch) : List Value := [.int .i64 x.kind, .int .i64 x.comp, .string ⟨x.fld.toArray⟩]
end Go.Lg.Fld
namespace Go.Proofs.YtbpdbclndfmcgaaGreatDoor
open Go Go.Lg Go.Lg.Fld
set_option maxRecDepth 100000
variable (X : Nat → Option Obj)
end Go.Proofs.YtbpdbclndfmcgaaGreatDoor
end
section
namespace Go.Lg.Sg
open Go Go.Lg
def idsTo (a n : Nat) : List Int := ((List.range n).filter fun i => a.testBit (i + 1)).map fun i => ((i + 1 : Nat) : Int)
def idsL (a : Nat) : List Int := idsTo a 24
theorem idsTo_len (a n : Nat) : (idsTo a n).length ≤ n := by
  unfold idsTo
  rw [List.length_map]
  exact Nat.le_trans (List.length_filter_le _ _) (by rw [List.length_range]; exact Nat.le_refl _)
def okJ (id : Int) : Bool := decide (1 ≤ id) && decide (id ≤ 24)
theorem okI_iff {id : Int} : okJ id = true ↔ 1 ≤ id ∧ id ≤ 24 := by unfold okJ; simp
def hasB (a : Nat) (id : Int) : Bool := okJ id && a.testBit id.toNat
theorem mem_ids {a n : Nat} {id : Int} : id ∈ idsTo a n ↔ 1 ≤ id ∧ id ≤ n ∧ a.testBit id.toNat = true := by
  unfold idsTo
  rw [List.mem_map]
  constructor
  · rintro ⟨i, hi, rfl⟩
    obtain ⟨h1, h2⟩ := List.mem_filter.1 hi
    have := List.mem_range.1 h1
    exact ⟨by omega, by omega, by rw [show ((i + 1 : Nat) : Int).toNat = i + 1 from rfl]; exact h2⟩
  · rintro ⟨h1, h2, h3⟩
    refine ⟨id.toNat - 1, List.mem_filter.2 ⟨List.mem_range.2 (by omega), ?_⟩, by omega⟩
    rw [show id.toNat - 1 + 1 = id.toNat by omega]
    exact h3
theorem any_ids {a : Nat} {id : Int} : (idsL a).any (fun x => x == id) = hasB a id := by
  rw [Bool.eq_iff_iff, List.any_eq_true]
  unfold hasB
  rw [Bool.and_eq_true, okI_iff]
  constructor
  · rintro ⟨x, hx, he⟩
    rw [beq_iff_eq.1 he] at hx
    obtain ⟨h1, h2, h3⟩ := mem_ids.1 hx
    exact ⟨⟨h1, h2⟩, h3⟩
  · rintro ⟨⟨h1, h2⟩, h3⟩
    exact ⟨id, mem_ids.2 ⟨h1, h2, h3⟩, beq_iff_eq.2 rfl⟩
def badI (i : Nat) : Bool := decide (i < 1) || decide (24 < i)
def isB (a : Nat) : Bool := (List.range 32).all fun i => !(a.testBit i && badI i)
theorem isB_iff {a : Nat} : isB a = true ↔ ∀ i, i < 32 → a.testBit i = true → 1 ≤ i ∧ i ≤ 24 := by
  unfold isB badI
  rw [List.all_eq_true]
  constructor
  · intro h i hi hb
    have := h i (List.mem_range.2 hi)
    rw [hb] at this
    simp at this
    omega
  · intro h i hi
    have hi := List.mem_range.1 hi
    cases hb : a.testBit i with
    | false => rfl
    | true =>
      obtain ⟨h1, h2⟩ := h i hi hb
      rw [decide_eq_false (by omega), decide_eq_false (by omega)]
      rfl
end Go.Lg.Sg
namespace Go.Proofs.YtbpdbclndfmcgaaGreatDoor
open Go Go.Lg Go.Lg.Fld Go.Lg.Sg
set_option maxRecDepth 100000
variable (X : Nat → Option Obj)
instance : ArrB Tryz.prog 114 (List.replicate 32 (.bool false)) 1 := ⟨by kernel_rfl⟩
end Go.Proofs.YtbpdbclndfmcgaaGreatDoor
end
section
namespace Go.Lg.Sg
open Go Go.Lg
def txStep (s : List UInt8 × Bool) (x : Int) : List UInt8 × Bool := (s.1 ++ (if s.2 = true then [43] else []) ++ Lib.itoa x, true)
def txF (l : List Int) : List UInt8 × Bool := l.foldl txStep ([], false)
def ofN (ids : List Int) : Nat := ids.foldl (fun n id => n ||| 2 ^ id.toNat) 0
theorem ofN_bit (ids : List Int) (j : Nat) : (ofN ids).testBit j = ids.any fun id => id.toNat == j := by
  unfold ofN
  suffices H : ∀ (l : List Int) (n : Nat), (l.foldl (fun n id => n ||| 2 ^ id.toNat) n).testBit j = (n.testBit j || l.any fun id => id.toNat == j) by
    rw [H, Nat.zero_testBit, Bool.false_or]
  intro l
  induction l with
  | nil => intro n; simp
  | cons x t ih =>
    intro n
    rw [List.foldl_cons, ih, Nat.testBit_or, Nat.testBit_two_pow, List.any_cons, Bool.or_assoc]
    congr 2
theorem ofN_lt {ids : List Int} (h : ∀ id ∈ ids, okJ id = true) : ofN ids < 33554432 := by
  refine Nat.lt_pow_two_of_testBit (n := 25) _ fun i hi => ?_
  rw [ofN_bit, List.any_eq_false]
  intro id hid e
  have := okI_iff.1 (h id hid)
  have := beq_iff_eq.1 e
  omega
theorem ofN_isB {ids : List Int} (h : ∀ id ∈ ids, okJ id = true) : isB (ofN ids) = true := by
  rw [isB_iff]
  intro i _ hb
  rw [ofN_bit, List.any_eq_true] at hb
  obtain ⟨id, hid, e⟩ := hb
  have := okI_iff.1 (h id hid)
  have := beq_iff_eq.1 e
  omega
def okIds (ids : List Int) : Bool := ids.all okJ
def ofA (ids : List Int) : Nat := if okIds ids = true then ofN ids else 0
end Go.Lg.Sg
namespace Go.Proofs.YtbpdbclndfmcgaaGreatDoor
open Go Go.Lg Go.Lg.Fld Go.Lg.Sg
set_option maxRecDepth 100000
variable (X : Nat → Option Obj)
end Go.Proofs.YtbpdbclndfmcgaaGreatDoor
end
section
namespace Go.Proofs.YtbpdbclndfmcgaaGreatDoor
open Go Go.Lg Go.Lg.Fld Go.Lg.Sg
set_option maxRecDepth 100000
structure Rw where
  e : Nat
  p : List Pt
structure Tb where
  sc : Sc
  set : Nat
  most : Nat
  kept : Nat
  l : List Rw
def hasC (cs : List Cp) (id : Int) : Bool := cs.any fun c => c.id == id
def goodT (s : Sc) (set : Nat) (most : Int) : Bool := decide (chkE s = 0) && isB set && decide (1 ≤ most) && decide (most ≤ 256) && (idsL set).all (hasC s.cs)
def roomT (t : Tb) : Nat := t.most - t.l.length - t.kept
def hitsP (l : List Pt) (id : Int) : List Pt := l.filter fun p => p.comp == id
def justP (ids : List Int) (l : List Pt) : Bool := decide (l.length = ids.length) && ids.all fun id => decide ((hitsP l id).length = 1)
def sortP (ids : List Int) (l : List Pt) : List Pt := (ids.map (hitsP l)).flatten
def addE (t : Tb) (e : Nat) (l : List Pt) : Int :=
  if e = 0 then 1 else if justP (idsL t.set) l = true then (if partsE t.sc.cs l = 0 then (if roomT t = 0 then 5 else 0) else partsE t.sc.cs l) else 4
def addT (t : Tb) (e : Nat) (l : List Pt) : Tb := { t with l := t.l ++ [⟨e, sortP (idsL t.set) l⟩] }
def rowB (t : Tb) (row : Int) : Bool := decide (0 ≤ row) && decide (row < t.l.length)
def dropL {α : Type} (l : List α) (i : Nat) : List α := match l[l.length - 1]? with | some x => (l.set i x).take (l.length - 1) | none => l
def dropT (t : Tb) (i : Nat) : Tb := { t with l := dropL t.l i }
def entT (t : Tb) (i : Nat) : Nat := match t.l[i]? with | some r => r.e | none => 0
def movedT (t : Tb) (i : Nat) : Nat := if i = t.l.length - 1 then 0 else entT t (t.l.length - 1)
def placeT (set : Nat) (comp : Int) : Option Nat := (idsL set).findIdx? fun x => x == comp
def tgetE (t : Tb) (row comp : Int) : Int := if rowB t row = true then (if (placeT t.set comp).isSome = true then 0 else 6) else 3
def valT (t : Tb) (i k : Nat) : List (Bool × Int) := match t.l[i]? with | some r => (match r.p[k]? with | some p => p.val | none => []) | none => []
def getV (t : Tb) (row comp : Int) : List (Bool × Int) := match placeT t.set comp with | some k => valT t row.toNat k | none => []
def bytesT (t : Tb) (row comp : Int) : List UInt8 := packB (fsAt t.sc.cs comp) (getV t row comp)
structure RwOk (cs : List Cp) (set : Nat) (r : Rw) : Prop where
  e : 1 ≤ r.e ∧ r.e < 18446744073709551616
  ids : r.p.map Pt.comp = idsL set
  fit : ∀ p ∈ r.p, fitErr (fsAt cs p.comp) p.val = 0
structure TbOk (t : Tb) : Prop where
  sc : chkE t.sc = 0
  set : t.set < 4294967296 ∧ isB t.set = true
  has : ∀ id ∈ idsL t.set, hasC t.sc.cs id = true
  most : 1 ≤ t.most ∧ t.most ≤ 256
  room : t.l.length + t.kept ≤ t.most
  rows : ∀ r ∈ t.l, RwOk t.sc.cs t.set r
end Go.Proofs.YtbpdbclndfmcgaaGreatDoor
end
section
namespace Go.Proofs.YtbpdbclndfmcgaaGreatDoor
open Go Go.Lg Go.Lg.Fld Go.Lg.Sg
set_option maxRecDepth 100000
theorem hits_one {l : List Pt} {id : Int} (h : (hitsP l id).length = 1) : ∃ p, hitsP l id = [p] ∧ p ∈ l ∧ p.comp = id := by
  obtain ⟨p, hp⟩ := List.length_eq_one_iff.1 h
  have hm : p ∈ hitsP l id := by rw [hp]; exact List.mem_singleton.2 rfl
  unfold hitsP at hm
  rw [List.mem_filter, beq_iff_eq] at hm
  exact ⟨p, hp, hm.1, hm.2⟩
theorem sort_comps {l : List Pt} : ∀ {ids : List Int}, (∀ id ∈ ids, (hitsP l id).length = 1) → (sortP ids l).map Pt.comp = ids
  | [], _ => rfl
  | id :: ids, h => by
    obtain ⟨p, hp, _, hc⟩ := hits_one (h id (List.mem_cons_self ..))
    have ih := sort_comps (l := l) (ids := ids) fun x hx => h x (List.mem_cons_of_mem _ hx)
    unfold sortP at ih ⊢
    rw [List.map_cons, List.flatten_cons, List.map_append, ih, hp, List.map_cons, hc]; rfl
theorem sort_mem {ids : List Int} {l : List Pt} {p : Pt} (h : p ∈ sortP ids l) : p ∈ l := by
  unfold sortP at h
  obtain ⟨x, hx, hp⟩ := List.mem_flatten.1 h
  obtain ⟨id, _, rfl⟩ := List.mem_map.1 hx
  exact (List.mem_filter.1 hp).1
theorem just_iff {ids : List Int} {l : List Pt} : justP ids l = true ↔ l.length = ids.length ∧ ∀ id ∈ ids, (hitsP l id).length = 1 := by
  unfold justP
  rw [Bool.and_eq_true, decide_eq_true_iff, List.all_eq_true]
  exact and_congr_right fun _ => forall_congr' fun x => by rw [decide_eq_true_iff]
theorem sort_len {ids : List Int} {l : List Pt} (h : justP ids l = true) : (sortP ids l).length = ids.length := by
  rw [← List.length_map (f := Pt.comp), sort_comps (just_iff.1 h).2]
theorem parts_zero {cs : List Cp} {ps : List Pt} (h : partsE cs ps = 0) : ∀ p ∈ ps, partE cs p = 0 := fun p hp => by
  obtain ⟨i, hi, rfl⟩ := List.getElem_of_mem hp
  have h1 := firstE_zero h i (Nat.zero_le _) (by omega)
  rw [ptE_at (List.getElem?_eq_getElem hi)] at h1
  by_cases c : (ps.take i).any (fun g => g.comp == ps[i].comp) = true
  · rw [if_pos c] at h1; cases h1
  · rw [if_neg c] at h1; exact h1
theorem part_fits {cs : List Cp} {p : Pt} (h : partE cs p = 0) : fitErr (fsAt cs p.comp) p.val = 0 := by
  obtain ⟨c, hc, hf⟩ := partE_find h
  unfold fsAt; rw [hc]; exact hf
theorem ids_le (a : Nat) : (idsL a).length ≤ 24 := idsTo_len a 24
theorem TbOk.add {t : Tb} (h : TbOk t) {e : Nat} {l : List Pt} (he : e < 18446744073709551616) (ha : addE t e l = 0) : TbOk (addT t e l) ∧ justP (idsL t.set) l = true ∧ partsE t.sc.cs l = 0 ∧ e ≠ 0 ∧ roomT t ≠ 0 := by
  unfold addE at ha
  by_cases c1 : e = 0
  · rw [if_pos c1] at ha; cases ha
  rw [if_neg c1] at ha
  by_cases c2 : justP (idsL t.set) l = true
  case neg => rw [if_neg c2] at ha; cases ha
  rw [if_pos c2] at ha
  by_cases c3 : partsE t.sc.cs l = 0
  case neg => rw [if_neg c3] at ha; exact absurd ha c3
  rw [if_pos c3] at ha
  by_cases c4 : roomT t = 0
  · rw [if_pos c4] at ha; cases ha
  refine ⟨⟨h.sc, h.set, h.has, h.most, ?_, fun r hr => ?_⟩, c2, c3, c1, c4⟩
  · have := h.room
    unfold roomT at c4
    show (t.l ++ [_]).length + t.kept ≤ t.most
    rw [List.length_append, List.length_singleton]; omega
  · rcases List.mem_append.1 hr with hr | hr
    · exact h.rows r hr
    · rw [List.mem_singleton.1 hr]
      exact ⟨⟨by show 1 ≤ e; omega, he⟩, sort_comps (just_iff.1 c2).2, fun p hp => part_fits (parts_zero c3 p (sort_mem hp))⟩
theorem dropL_len {α : Type} {l : List α} {i : Nat} (hi : i < l.length) : (dropL l i).length = l.length - 1 := by
  unfold dropL
  rw [List.getElem?_eq_getElem (show l.length - 1 < l.length by omega)]
  simp only [List.length_take, List.length_set]; omega
theorem dropL_mem {α : Type} {l : List α} {i : Nat} {x : α} (h : x ∈ dropL l i) : x ∈ l := by
  unfold dropL at h
  cases hl : l[l.length - 1]? with
  | none => rw [hl] at h; exact h
  | some y =>
    rw [hl] at h
    rcases List.mem_or_eq_of_mem_set (List.mem_of_mem_take h) with h | h
    · exact h
    · rw [h]; exact List.mem_of_getElem? hl
theorem dropL_at {α : Type} {l : List α} {i k : Nat} (hi : i < l.length) (hk : k < l.length - 1) : (dropL l i)[k]? = if k = i then l[l.length - 1]? else l[k]? := by
  unfold dropL
  rw [List.getElem?_eq_getElem (show l.length - 1 < l.length by omega)]
  show ((l.set i _).take (l.length - 1))[k]? = _
  rw [List.getElem?_take, if_pos hk, List.getElem?_set]
  by_cases c : k = i
  · rw [if_pos c.symm, if_pos hi, if_pos c]
  · rw [if_neg (Ne.symm c), if_neg c]
theorem TbOk.drop {t : Tb} (h : TbOk t) {i : Nat} (hi : i < t.l.length) : TbOk (dropT t i) :=
  ⟨h.sc, h.set, h.has, h.most, by have := h.room; show (dropL t.l i).length + t.kept ≤ t.most; rw [dropL_len hi]; omega, fun r hr => h.rows r (dropL_mem hr)⟩
theorem place_at {set : Nat} {comp : Int} {k : Nat} (h : placeT set comp = some k) : (idsL set)[k]? = some comp := by
  unfold placeT at h
  rw [List.findIdx?_eq_some_iff_getElem] at h
  obtain ⟨hk, h1, _⟩ := h
  rw [List.getElem?_eq_getElem hk, beq_iff_eq.1 h1]
theorem RwOk.at {cs : List Cp} {set : Nat} {r : Rw} (h : RwOk cs set r) {k : Nat} {id : Int} (hk : (idsL set)[k]? = some id) : ∃ p, r.p[k]? = some p ∧ p.comp = id := by
  rw [← h.ids, List.getElem?_map] at hk
  obtain ⟨p, hp, hc⟩ := Option.map_eq_some_iff.1 hk
  exact ⟨p, hp, hc⟩
theorem TbOk.kept {t : Tb} (h : TbOk t) (hr : roomT t ≠ 0) : TbOk { t with kept := t.kept + 1 } :=
  ⟨h.sc, h.set, h.has, h.most, by have := h.room; unfold roomT at hr; show t.l.length + (t.kept + 1) ≤ t.most; omega, h.rows⟩
theorem TbOk.yield {t : Tb} (h : TbOk t) : TbOk { t with kept := t.kept - 1 } :=
  ⟨h.sc, h.set, h.has, h.most, by have := h.room; show t.l.length + (t.kept - 1) ≤ t.most; omega, h.rows⟩
theorem TbOk.new {s : Sc} {set most : Nat} (hs : set < 4294967296) (h : goodT s set most = true) : TbOk ⟨s, set, most, 0, []⟩ := by
  unfold goodT at h
  simp only [Bool.and_eq_true, decide_eq_true_eq, List.all_eq_true] at h
  obtain ⟨⟨⟨⟨h1, h2⟩, h3⟩, h4⟩, h5⟩ := h
  exact ⟨h1, ⟨hs, h2⟩, h5, ⟨by show 1 ≤ most; omega, by show most ≤ 256; omega⟩, Nat.zero_le _, fun r hr => absurd hr (by simp)⟩
end Go.Proofs.YtbpdbclndfmcgaaGreatDoor
end
section
namespace Go.Proofs.YtbpdbclndfmcgaaGreatDoor
open Go Go.Lg Go.Lg.Fld Go.Lg.Sg
set_option maxRecDepth 100000
def tbV (r : Rw) (w : Value) : List Value := [.int .u64 (r.e : Nat), w]
def tbZ (rs : List Rw) (ws : List Value) : List Value := (List.zipWith tbV rs ws).flatten
structure TbsH (H : Nat → Option Obj) (ws : List Value) (rs : List Rw) : Prop where
  len : ws.length = rs.length
  at_ : ∀ (i : Nat) (w : Value) (r : Rw), ws[i]? = some w → rs[i]? = some r → ∃ (pad : Option Addr) (pcap : Nat), w = .slice pad r.p.length pcap ∧ PartsIn H pad r.p
structure TbsIn (X : Nat → Option Obj) (ad : Option Addr) (rs : List Rw) : Prop where
  ex : ∃ ws, TbsH X ws rs ∧ Go.Lg.RowsIn X ad 2 (List.zipWith tbV rs ws)
section
variable {n : Nat} {C : Ctx} {X : Nat → Option Obj} {s : List (Nat × LV)} {bx : List (Nat × Option Box)} {k : Nat}
end
end Go.Proofs.YtbpdbclndfmcgaaGreatDoor
end
section
namespace Go.Proofs.YtbpdbclndfmcgaaGreatDoor
open Go Go.Lg Go.Lg.Fld Go.Lg.Sg
set_option maxRecDepth 100000
variable (X : Nat → Option Obj)
abbrev Vn (ad : Option Addr) (n cap : Nat) : LV := .sv (.one (.val (.slice ad n cap)))
end Go.Proofs.YtbpdbclndfmcgaaGreatDoor
end
section
namespace Go.Proofs.YtbpdbclndfmcgaaGreatDoor
open Go Go.Lg Go.Lg.Fld Go.Lg.Sg
set_option maxRecDepth 100000
structure TbIn (X : Nat → Option Obj) (t : Tb) (ad iad lad : Option Addr) : Prop where
  cs : CompsIn X ad t.sc.cs
  ids : NuIn X iad (idsL t.set)
  l : TbsIn X lad t.l
  small : t.sc.cs.length ≤ 30 ∧ ∀ c ∈ t.sc.cs, c.fs.length ≤ 12
variable (X : Nat → Option Obj)
theorem rowB_some {t : Tb} {row : Int} (h : rowB t row = true) : ∃ i : Nat, row = (i : Int) ∧ i < t.l.length := by
  unfold rowB at h
  rw [Bool.and_eq_true, decide_eq_true_iff, decide_eq_true_iff] at h
  exact ⟨row.toNat, by omega, by omega⟩
end Go.Proofs.YtbpdbclndfmcgaaGreatDoor
end
section
namespace Go.Lg
open Go Go.RowKit
def CV.fix (k b : Nat) : CV → CV
  | .ptr k' off => cond (Nat.beq k' k) (.val (.pointer (some ⟨b, off, none⟩))) (.ptr k' off)
  | .fn fi gi k' => cond (Nat.beq k' k) (.val (.func fi #[] (gi b).toArray)) (.fn fi gi k')
  | .hang g h k' => cond (Nat.beq k' k) (.val (g b)) (.hang g h k')
  | c => c
def SV.fix (k b : Nat) : SV → SV
  | .one c => .one (c.fix k b)
  | .agg l => .agg (l.map (CV.fix k b))
def LV.fix (k b : Nat) : LV → LV
  | .sv s => .sv (s.fix k b)
  | .tup l => .tup (l.map (SV.fix k b))
def Box.fix (k b : Nat) (x : Box) : Box := ⟨x.elem, x.cells.map (CV.fix k b), x.row⟩
def CV.fixIn (k : Nat) (B : List (Nat × Option Box)) : CV → Bool
  | .ptr k' _ => Nat.beq k' k || (look k' B).isSome
  | .fn _ _ k' => Nat.beq k' k || (look k' B).isSome
  | .hang _ _ k' => Nat.beq k' k || (look k' B).isSome
  | c => c.inUse B
def SV.fixIn (k : Nat) (B : List (Nat × Option Box)) : SV → Bool
  | .one c => c.fixIn k B
  | .agg l => l.all (CV.fixIn k B)
def LV.fixIn (k : Nat) (B : List (Nat × Option Box)) : LV → Bool
  | .sv s => s.fixIn k B
  | .tup l => l.all (SV.fixIn k B)
def fixS (k b : Nat) (s : List (Nat × LV)) : List (Nat × LV) := s.map fun p => (p.1, p.2.fix k b)
def fixB (k b : Nat) (s : List (Nat × Option Box)) : List (Nat × Option Box) := s.map fun p => (p.1, p.2.map (Box.fix k b))
section
variable {S T : Nat → Option (Option Box)} {ι : Nat → Nat × Nat} {B : List (Nat × Option Box)} {k : Nat}
def Stay (B : List (Nat × Option Box)) (S T : Nat → Option (Option Box)) : Prop := ∀ k', (look k' B).isSome = true → ∃ x y, T k' = some x ∧ S k' = some y ∧ x.isSome = y.isSome
theorem CV.rel_stay (hT : Stay B S T) {c : CV} (hu : c.inUse B = true) {v : Value} (hr : c.rel S ι v) : c.rel T ι v := by
  cases c with
  | val u => exact hr
  | junk => trivial
  | ptr k' off =>
    obtain ⟨x, y, h1, h2, h3⟩ := hT k' hu
    simp only [CV.rel, h1, h2] at hr ⊢
    cases x <;> cases y <;> first | exact hr | cases h3
  | slc k' off n sz =>
    obtain ⟨x, y, h1, h2, h3⟩ := hT k' hu
    simp only [CV.rel, h1, h2] at hr ⊢
    cases x <;> cases y <;> first | exact hr | cases h3
  | mp k' =>
    obtain ⟨x, y, h1, h2, h3⟩ := hT k' hu
    simp only [CV.rel, h1, h2] at hr ⊢
    cases x <;> cases y <;> first | exact hr | cases h3
  | fn fi gi k' =>
    obtain ⟨x, y, h1, h2, h3⟩ := hT k' hu
    simp only [CV.rel, h1, h2] at hr ⊢
    cases x <;> cases y <;> first | exact hr | cases h3
  | hang g hg k' =>
    obtain ⟨x, y, h1, h2, h3⟩ := hT k' hu
    simp only [CV.rel, h1, h2] at hr ⊢
    cases x <;> cases y <;> first | exact hr | cases h3
theorem CV.rel_fix (hT : Stay B S T) (hk : ∃ b, S k = some (some b)) {c : CV} (hu : c.fixIn k B = true) {v : Value} (hr : c.rel S ι v) : (c.fix k (ι k).1).rel T ι v := by
  obtain ⟨b, hb⟩ := hk
  cases c with
  | val u => exact hr
  | junk => trivial
  | ptr k' off =>
    simp only [CV.fixIn, Bool.or_eq_true] at hu
    cases e : Nat.beq k' k with
    | true =>
      have e' := Nat.eq_of_beq_eq_true e
      subst e'
      simp only [CV.fix, e, cond_true]
      simp only [CV.rel, hb] at hr
      exact hr
    | false =>
      simp only [CV.fix, e, cond_false]
      rw [e] at hu
      exact CV.rel_stay (c := .ptr k' off) hT (hu.resolve_left (by decide)) hr
  | slc k' off n sz => exact CV.rel_stay (c := .slc k' off n sz) hT hu hr
  | mp k' => exact CV.rel_stay (c := .mp k') hT hu hr
  | fn fi gi k' =>
    simp only [CV.fixIn, Bool.or_eq_true] at hu
    cases e : Nat.beq k' k with
    | true =>
      have e' := Nat.eq_of_beq_eq_true e
      subst e'
      simp only [CV.fix, e, cond_true]
      simp only [CV.rel, hb] at hr
      exact hr
    | false =>
      simp only [CV.fix, e, cond_false]
      rw [e] at hu
      exact CV.rel_stay (c := .fn fi gi k') hT (hu.resolve_left (by decide)) hr
  | hang g hg k' =>
    simp only [CV.fixIn, Bool.or_eq_true] at hu
    cases e : Nat.beq k' k with
    | true =>
      have e' := Nat.eq_of_beq_eq_true e
      subst e'
      simp only [CV.fix, e, cond_true]
      simp only [CV.rel, hb] at hr
      exact hr
    | false =>
      simp only [CV.fix, e, cond_false]
      rw [e] at hu
      exact CV.rel_stay (c := .hang g hg k') hT (hu.resolve_left (by decide)) hr
theorem CVs.rel_stay (hT : Stay B S T) : ∀ {l : List CV} {vs : List Value}, l.all (CV.inUse B) = true → CVs.rel S ι l vs → CVs.rel T ι l vs
  | [], [], _, _ => trivial
  | _ :: _, _ :: _, hu, hr => by
    simp only [List.all_cons, Bool.and_eq_true] at hu
    exact ⟨CV.rel_stay hT hu.1 hr.1, CVs.rel_stay hT hu.2 hr.2⟩
  | [], _ :: _, _, hr => hr.elim
  | _ :: _, [], _, hr => hr.elim
theorem CVs.rel_fix (hT : Stay B S T) (hk : ∃ b, S k = some (some b)) : ∀ {l : List CV} {vs : List Value}, l.all (CV.fixIn k B) = true → CVs.rel S ι l vs → CVs.rel T ι (l.map (CV.fix k (ι k).1)) vs
  | [], [], _, _ => trivial
  | _ :: _, _ :: _, hu, hr => by
    simp only [List.all_cons, Bool.and_eq_true] at hu
    exact ⟨CV.rel_fix hT hk hu.1 hr.1, CVs.rel_fix hT hk hu.2 hr.2⟩
  | [], _ :: _, _, hr => hr.elim
  | _ :: _, [], _, hr => hr.elim
theorem SV.rel_stay (hT : Stay B S T) {s : SV} (hu : s.inUse B = true) {v : Value} (hr : s.rel S ι v) : s.rel T ι v := by
  cases s with
  | one c => exact CV.rel_stay hT hu hr
  | agg l => obtain ⟨arr, e, hl⟩ := hr; exact ⟨arr, e, CVs.rel_stay hT hu hl⟩
theorem SV.rel_fix (hT : Stay B S T) (hk : ∃ b, S k = some (some b)) {s : SV} (hu : s.fixIn k B = true) {v : Value} (hr : s.rel S ι v) : (s.fix k (ι k).1).rel T ι v := by
  cases s with
  | one c => exact CV.rel_fix hT hk hu hr
  | agg l => obtain ⟨arr, e, hl⟩ := hr; exact ⟨arr, e, CVs.rel_fix hT hk hu hl⟩
theorem SVs.rel_stay (hT : Stay B S T) : ∀ {l : List SV} {vs : List Value}, l.all (SV.inUse B) = true → SVs.rel S ι l vs → SVs.rel T ι l vs
  | [], [], _, _ => trivial
  | _ :: _, _ :: _, hu, hr => by
    simp only [List.all_cons, Bool.and_eq_true] at hu
    exact ⟨SV.rel_stay hT hu.1 hr.1, SVs.rel_stay hT hu.2 hr.2⟩
  | [], _ :: _, _, hr => hr.elim
  | _ :: _, [], _, hr => hr.elim
theorem SVs.rel_fix (hT : Stay B S T) (hk : ∃ b, S k = some (some b)) : ∀ {l : List SV} {vs : List Value}, l.all (SV.fixIn k B) = true → SVs.rel S ι l vs → SVs.rel T ι (l.map (SV.fix k (ι k).1)) vs
  | [], [], _, _ => trivial
  | _ :: _, _ :: _, hu, hr => by
    simp only [List.all_cons, Bool.and_eq_true] at hu
    exact ⟨SV.rel_fix hT hk hu.1 hr.1, SVs.rel_fix hT hk hu.2 hr.2⟩
  | [], _ :: _, _, hr => hr.elim
  | _ :: _, [], _, hr => hr.elim
theorem LV.rel_stay (hT : Stay B S T) {s : LV} (hu : s.inUse B = true) {v : Value} (hr : s.rel S ι v) : s.rel T ι v := by
  cases s with
  | sv s => exact SV.rel_stay hT hu hr
  | tup l => obtain ⟨arr, e, hl⟩ := hr; exact ⟨arr, e, SVs.rel_stay hT hu hl⟩
theorem LV.rel_fix (hT : Stay B S T) (hk : ∃ b, S k = some (some b)) {s : LV} (hu : s.fixIn k B = true) {v : Value} (hr : s.rel S ι v) : (s.fix k (ι k).1).rel T ι v := by
  cases s with
  | sv s => exact SV.rel_fix hT hk hu hr
  | tup l => obtain ⟨arr, e, hl⟩ := hr; exact ⟨arr, e, SVs.rel_fix hT hk hu hl⟩
theorem Box.rel_stay (hT : Stay B S T) {b : Box} (hu : b.cells.all (CV.inUse B) = true) {vs : List Value} (hr : b.rel S ι vs) : b.rel T ι vs := by
  unfold Box.rel at hr ⊢
  cases hb : b.row with
  | res R => rw [hb] at hr; exact hr.elim
  | bool r =>
    cases r with
    | false => rw [hb] at hr; exact CVs.rel_stay hT hu hr
    | true => rw [hb] at hr; obtain ⟨us, sp, e, hl⟩ := hr; exact ⟨us, sp, e, CVs.rel_stay hT hu hl⟩
theorem Box.rel_fix (hT : Stay B S T) (hk : ∃ b, S k = some (some b)) {b : Box} (hu : b.cells.all (CV.fixIn k B) = true) {vs : List Value} (hr : b.rel S ι vs) : (b.fix k (ι k).1).rel T ι vs := by
  obtain ⟨e, cs, r⟩ := b
  unfold Box.rel at hr ⊢
  simp only [Box.fix] at hu hr ⊢
  cases r with
  | res R => exact hr.elim
  | bool r =>
    cases r with
    | false => exact CVs.rel_fix hT hk hu hr
    | true => obtain ⟨us, sp, e, hl⟩ := hr; exact ⟨us, sp, e, CVs.rel_fix hT hk hu hl⟩
end
theorem look_fixS (k b d : Nat) (s : List (Nat × LV)) : look d (fixS k b s) = (look d s).map (LV.fix k b) := by
  induction s with
  | nil => rfl
  | cons p s ih =>
    obtain ⟨d', lv⟩ := p
    show cond (Nat.beq d' d) _ (look d (fixS k b s)) = (cond (Nat.beq d' d) _ (look d s)).map _
    cases Nat.beq d' d with
    | true => rfl
    | false => exact ih
theorem look_fixB (k b d : Nat) (s : List (Nat × Option Box)) : look d (fixB k b s) = (look d s).map (fun x => x.map (Box.fix k b)) := by
  induction s with
  | nil => rfl
  | cons p s ih =>
    obtain ⟨d', lv⟩ := p
    show cond (Nat.beq d' d) _ (look d (fixB k b s)) = (cond (Nat.beq d' d) _ (look d s)).map _
    cases Nat.beq d' d with
    | true => rfl
    | false => exact ih
section
variable {P : Program} {n : Nat} {C : Ctx} {c : Code} {Q : Exit → St → Prop} {X : Nat → Option Obj}
theorem Rel.fixN {ι : Nat → Nat × Nat} {a : Act} {w : World} {s0 s : List (Nat × LV)} {b0 bx : List (Nat × Option Box)} {k : Nat} {b : Box} {H : Nat → Option Obj} {F : Nat → Nat → Option Obj}
    (hk : look k (b0 ++ bx) = none) (hs : s.all (fun p => p.2.inUse (b0 ++ bx)) = true) (hb : bx.all (fun p => match p.2 with | some b => b.cells.all (CV.inUse (b0 ++ bx)) | none => true) = true)
    (hs0 : s0.all (fun p => p.2.fixIn k (b0 ++ bx)) = true) (hb0 : b0.all (fun p => match p.2 with | some b => b.cells.all (CV.fixIn k (b0 ++ bx)) | none => true) = true)
    (hr : Rel n C ι ⟨s0 ++ s, b0 ++ (k, some b) :: bx, X⟩ a w)
    (hH : ∀ i o, H i = some o → w.heap[i]? = some o ∧ X i = none ∧ ∀ j bj, (⟨s0 ++ s, b0 ++ (k, some b) :: bx, X⟩ : St).stat j = some (some bj) → (ι j).1 = i → j = k)
    (hF : ResAt (fun b => C.own b ∨ C.w0.heap.size ≤ b) ι F (⟨s0 ++ s, b0 ++ (k, some b) :: bx, X⟩ : St).stat X w) (hFH : ∀ j, j ≠ k → ∀ i, F j i ≠ none → H i = none) :
    Rel n C ι ⟨fixS k (ι k).1 s0 ++ s, fixB k (ι k).1 b0 ++ bx, joinM X H⟩ a w := by
  have hk1 : look k b0 = none ∧ look k bx = none := by
    rw [look_append] at hk
    cases h : look k b0 with
    | none => rw [h] at hk; exact ⟨rfl, hk⟩
    | some x => rw [h] at hk; cases hk
  have hstat : ∀ j, (⟨s0 ++ s, b0 ++ (k, some b) :: bx, X⟩ : St).stat j = (look j b0).or (if j = k then some (some b) else look j bx) := fun j => by
    show look j (b0 ++ (k, some b) :: bx) = _
    rw [look_append]
    have := stat_cons [] bx X k j (some b)
    simp only [St.stat] at this
    rw [this]
  have hnew : ∀ j, (⟨fixS k (ι k).1 s0 ++ s, fixB k (ι k).1 b0 ++ bx, joinM X H⟩ : St).stat j = ((look j b0).map (fun x => x.map (Box.fix k (ι k).1))).or (look j bx) := fun j => by
    show look j (fixB k (ι k).1 b0 ++ bx) = _
    rw [look_append, look_fixB]
  have hst : (⟨s0 ++ s, b0 ++ (k, some b) :: bx, X⟩ : St).stat k = some (some b) := by rw [hstat, hk1.1, if_pos rfl]; rfl
  have live : ∀ j x, (⟨fixS k (ι k).1 s0 ++ s, fixB k (ι k).1 b0 ++ bx, joinM X H⟩ : St).stat j = some x → j ≠ k ∧ ((∃ y, look j b0 = some y ∧ x = y.map (Box.fix k (ι k).1) ∧ (⟨s0 ++ s, b0 ++ (k, some b) :: bx, X⟩ : St).stat j = some y) ∨ (look j b0 = none ∧ look j bx = some x ∧ (⟨s0 ++ s, b0 ++ (k, some b) :: bx, X⟩ : St).stat j = some x)) := fun j x hj => by
    rw [hnew] at hj
    cases h0 : look j b0 with
    | some y =>
      rw [h0] at hj
      have hj : some (y.map (Box.fix k (ι k).1)) = some x := hj
      cases hj
      exact ⟨fun e => (by rw [e, hk1.1] at h0; cases h0), .inl ⟨y, rfl, rfl, by rw [hstat, h0]; rfl⟩⟩
    | none =>
      rw [h0] at hj
      have hj : look j bx = some x := hj
      have hne : j ≠ k := fun e => by rw [e, hk1.2] at hj; cases hj
      exact ⟨hne, .inr ⟨rfl, hj, by rw [hstat, h0, if_neg hne]; exact hj⟩⟩
  have hT : Stay (b0 ++ bx) (⟨s0 ++ s, b0 ++ (k, some b) :: bx, X⟩ : St).stat (⟨fixS k (ι k).1 s0 ++ s, fixB k (ι k).1 b0 ++ bx, joinM X H⟩ : St).stat := fun j hj => by
    rw [look_append] at hj
    rw [hnew, hstat]
    cases h0 : look j b0 with
    | some y =>
      refine ⟨y.map (Box.fix k (ι k).1), y, rfl, rfl, ?_⟩
      cases y <;> rfl
    | none =>
      rw [h0] at hj
      have hj : (look j bx).isSome = true := hj
      obtain ⟨x, hx⟩ := Option.isSome_iff_exists.1 hj
      have hne : j ≠ k := fun e => by rw [e, hk1.2] at hx; cases hx
      rw [if_neg hne, hx]
      exact ⟨x, x, rfl, rfl, rfl⟩
  have live2 : ∀ j bj, (⟨fixS k (ι k).1 s0 ++ s, fixB k (ι k).1 b0 ++ bx, joinM X H⟩ : St).stat j = some (some bj) → j ≠ k ∧ ∃ bj0, (⟨s0 ++ s, b0 ++ (k, some b) :: bx, X⟩ : St).stat j = some (some bj0) ∧ bj.row = bj0.row := fun j bj hj => by
    obtain ⟨hne, h⟩ := live j _ hj
    rcases h with ⟨y, _, h2, h3⟩ | ⟨_, _, h3⟩
    · cases y with
      | none => cases h2
      | some y =>
        have h2 : some bj = some (y.fix k (ι k).1) := h2
        cases h2
        exact ⟨hne, y, h3, rfl⟩
    · exact ⟨hne, bj, h3, rfl⟩
  have hHk : ∀ j bj, (⟨fixS k (ι k).1 s0 ++ s, fixB k (ι k).1 b0 ++ bx, joinM X H⟩ : St).stat j = some (some bj) → H (ι j).1 = none := fun j bj hj => by
    obtain ⟨hne, bj0, h1, _⟩ := live2 j bj hj
    cases hc : H (ι j).1 with
    | none => rfl
    | some o => exact absurd ((hH _ o hc).2.2 j bj0 h1 rfl) hne
  exact {
    defers := hr.defers, size := hr.size
    slots := fun d lv hd => by
      have hd : look d (fixS k (ι k).1 s0 ++ s) = some lv := hd
      rw [look_append, look_fixS] at hd
      cases h0 : look d s0 with
      | some lv0 =>
        rw [h0] at hd
        have hd : some (lv0.fix k (ι k).1) = some lv := hd
        cases hd
        obtain ⟨v, hv, hvr⟩ := hr.slots d lv0 (by show look d (s0 ++ s) = _; rw [look_append, h0]; rfl)
        exact ⟨v, hv, LV.rel_fix hT ⟨b, hst⟩ (List.all_eq_true.1 hs0 _ (look_mem h0)) hvr⟩
      | none =>
        rw [h0] at hd
        have hd : look d s = some lv := hd
        obtain ⟨v, hv, hvr⟩ := hr.slots d lv (by show look d (s0 ++ s) = _; rw [look_append, h0]; exact hd)
        exact ⟨v, hv, LV.rel_stay hT (List.all_eq_true.1 hs _ (look_mem hd)) hvr⟩
    boxes := fun j bj hj hbk => by
      obtain ⟨hne, h⟩ := live j _ hj
      rcases h with ⟨y, h1, h2, h3⟩ | ⟨h1, h2, h3⟩
      · cases y with
        | none => cases h2
        | some y =>
          have h2 : some bj = some (y.fix k (ι k).1) := h2
          cases h2
          obtain ⟨arr, fr, g1, g2, g3, g4⟩ := hr.boxes j y h3 hbk
          exact ⟨arr, fr, g1, g2, g3, Box.rel_fix hT ⟨b, hst⟩ (by simpa using List.all_eq_true.1 hb0 _ (look_mem h1)) g4⟩
      · obtain ⟨arr, fr, g1, g2, g3, g4⟩ := hr.boxes j bj h3 hbk
        exact ⟨arr, fr, g1, g2, g3, Box.rel_stay hT (by simpa using List.all_eq_true.1 hb _ (look_mem h2)) g4⟩
    own := fun j bj hj => by
      obtain ⟨hne, bj0, h1, _⟩ := live2 j bj hj
      obtain ⟨h2, h3⟩ := hr.own j bj0 h1
      exact ⟨h2, (joinM_out (hHk j bj hj)).trans h3⟩
    inj := fun i j bi bj hi hj he => by
      obtain ⟨_, bi0, h1, _⟩ := live2 i bi hi
      obtain ⟨_, bj0, h2, _⟩ := live2 j bj hj
      exact hr.inj i j bi0 bj0 h1 h2 he
    keep := fun j bj hj hge => by
      obtain ⟨_, bj0, h1, _⟩ := live2 j bj hj
      exact hr.keep j bj0 h1 hge
    ext := fun i o hi => by
      have hi : joinM X H i = some o := hi
      cases hc : H i with
      | none => rw [joinM_out hc] at hi; exact hr.ext i o hi
      | some o' =>
        rw [joinM_in hc] at hi
        cases hi
        exact (hH i o hc).1
    res := by
      refine ⟨fun j => open Classical in if j = k then fun _ => none else F j, fun j e' cs' R' hj => ?_, fun j i o ho => ?_, fun i j i' h1 h2 => ?_⟩
      · obtain ⟨hne, h⟩ := live j _ hj
        rw [if_neg hne]
        rcases h with ⟨y, h1, h2, h3⟩ | ⟨h1, h2, h3⟩
        · cases y with
          | none => cases h2
          | some y =>
            obtain ⟨ye, yc, yr⟩ := y
            have h2 : some (⟨e', cs', .res R'⟩ : Box) = some (Box.fix k (ι k).1 ⟨ye, yc, yr⟩) := h2
            simp only [Box.fix, Option.some.injEq, Box.mk.injEq] at h2
            obtain ⟨_, _, e3⟩ := h2
            subst e3
            exact hF.holds j _ _ R' h3
        · exact hF.holds j _ _ R' h3
      · by_cases ej : j = k
        · rw [if_pos ej] at ho; cases ho
        · rw [if_neg ej] at ho
          obtain ⟨⟨e1, cs1, R1, h1⟩, h2, h3, h4, h5, h6⟩ := hF.mem j i o ho
          refine ⟨?_, h2, h3, h4, (joinM_out (hFH j ej i (by rw [ho]; simp))).trans h5, fun i2 bi hi ei => ?_⟩
          · rw [hstat, if_neg ej] at h1
            unfold isRes
            rw [hnew]
            cases h0 : look j b0 with
            | some y =>
              rw [h0] at h1
              have h1 : some y = some (some ⟨e1, cs1, .res R1⟩) := h1
              cases h1
              exact ⟨_, _, _, rfl⟩
            | none =>
              rw [h0] at h1
              have h1 : look j bx = some (some ⟨e1, cs1, .res R1⟩) := h1
              exact ⟨_, _, _, h1⟩
          · obtain ⟨_, bi0, h7, _⟩ := live2 i2 bi hi
            exact h6 i2 bi0 h7 ei
      · by_cases ei : i = k
        · rw [if_pos ei] at h1; exact absurd rfl h1
        · by_cases ej : j = k
          · rw [if_pos ej] at h2; exact absurd rfl h2
          · rw [if_neg ei] at h1
            rw [if_neg ej] at h2
            exact hF.apart i j i' h1 h2
    frame := hr.frame, big := hr.big, os := hr.os, tape := hr.tape, output := hr.output }
theorem Rel.fixRsc {ι : Nat → Nat × Nat} {a : Act} {w : World} {s0 s : List (Nat × LV)} {b0 bx : List (Nat × Option Box)} {k : Nat} {e : TypeId} {cs : List CV} {R : Rsc}
    (hk : look k (b0 ++ bx) = none) (hs : s.all (fun p => p.2.inUse (b0 ++ bx)) = true) (hb : bx.all (fun p => match p.2 with | some b => b.cells.all (CV.inUse (b0 ++ bx)) | none => true) = true)
    (hs0 : s0.all (fun p => p.2.fixIn k (b0 ++ bx)) = true) (hb0 : b0.all (fun p => match p.2 with | some b => b.cells.all (CV.fixIn k (b0 ++ bx)) | none => true) = true)
    (hr : Rel n C ι ⟨s0 ++ s, b0 ++ (k, some ⟨e, cs, .res R⟩) :: bx, X⟩ a w) :
    ∃ (ρ : Nat × Nat) (H : Nat → Option Obj), R.holds ρ H ∧ OwnedM C X H ∧
      Rel n C ι ⟨fixS k ρ.1 s0 ++ s, fixB k ρ.1 b0 ++ bx, joinM X H⟩ a w := by
  have hst : (⟨s0 ++ s, b0 ++ (k, some ⟨e, cs, .res R⟩) :: bx, X⟩ : St).stat k = some (some ⟨e, cs, .res R⟩) := by
    show look k (b0 ++ (k, some ⟨e, cs, .res R⟩) :: bx) = _
    rw [look_append] at hk ⊢
    cases h : look k b0 with
    | none => simp [look]
    | some x => rw [h] at hk; cases hk
  obtain ⟨F, hF⟩ := hr.res
  refine ⟨ι k, F k, (hF.holds k _ _ _ hst).1, ⟨fun b o hb => let h := hF.mem k b o hb; ⟨h.2.2.2.1, h.2.2.1, h.2.2.2.2.1⟩⟩, ?_⟩
  refine hr.fixN hk hs hb hs0 hb0 (fun i o hi => ?_) hF (fun j hj i hi => ?_)
  · obtain ⟨_, h2, _, _, h5, h6⟩ := hF.mem k i o hi
    exact ⟨h2, h5, fun j bj hj he => h6 j bj hj he⟩
  · cases hc : F k i with
    | none => rfl
    | some o => exact absurd (hF.apart j k i hi (by rw [hc]; simp)) hj
theorem Leads.fixRsc {Mid : St → Prop} (s0 : List (Nat × LV)) (b0 : List (Nat × Option Box)) {s : List (Nat × LV)} {bx : List (Nat × Option Box)} {k : Nat} {e : TypeId} {cs : List CV} {R : Rsc}
    (hk : look k (b0 ++ bx) = none) (hs : s.all (fun p => p.2.inUse (b0 ++ bx)) = true) (hb : bx.all (fun p => match p.2 with | some b => b.cells.all (CV.inUse (b0 ++ bx)) | none => true) = true)
    (hs0 : s0.all (fun p => p.2.fixIn k (b0 ++ bx)) = true) (hb0 : b0.all (fun p => match p.2 with | some b => b.cells.all (CV.fixIn k (b0 ++ bx)) | none => true) = true)
    (h : ∀ (ρ : Nat × Nat) (H : Nat → Option Obj), R.holds ρ H → OwnedM C X H → Leads n C Mid ⟨fixS k ρ.1 s0 ++ s, fixB k ρ.1 b0 ++ bx, joinM X H⟩) :
    Leads n C Mid ⟨s0 ++ s, b0 ++ (k, some ⟨e, cs, .res R⟩) :: bx, X⟩ := by
  refine ⟨fun ι a w hr => ?_⟩
  obtain ⟨ρ, H, h1, h2, h3⟩ := hr.fixRsc hk hs hb hs0 hb0
  exact (h ρ H h1 h2).out ι a w h3
end
section
variable {P : Program} {n : Nat} {ops os : List Oper} {acc : List Eff} {K : List Eff → St → Prop} {s : List (Nat × LV)} {bx : List (Nat × Option Box)} {X : Nat → Option Obj} {σ : St}
end
section
variable {P : Program} {n : Nat} {ops os : List Oper} {acc : List Eff} {K : List Eff → St → Prop} {s : List (Nat × LV)} {bx : List (Nat × Option Box)} {X : Nat → Option Obj} {σ : St}
end
end Go.Lg
end
section
namespace Go.Lg
open Go Go.RowKit
theorem joinM_join (X H H2 : Nat → Option Obj) : joinM (joinM X H) H2 = joinM X (joinM H H2) := by
  funext b
  unfold joinM
  cases H2 b <;> rfl
theorem OwnedM.join {C : Ctx} {X H H2 : Nat → Option Obj} (h : OwnedM C X H) (h2 : OwnedM C (joinM X H) H2) : OwnedM C X (joinM H H2) := ⟨fun b o hb => by
  cases hc : H2 b with
  | none => rw [joinM_out hc] at hb; exact h.own b o hb
  | some o' =>
    rw [joinM_in hc] at hb
    cases hb
    obtain ⟨h3, h4, h5⟩ := h2.own b _ hc
    exact ⟨h3, h4, (joinM_none h5).2⟩⟩
theorem joinM_keeps {C : Ctx} {X H H2 : Nat → Option Obj} (h2 : OwnedM C (joinM X H) H2) : ∀ b o, H b = some o → joinM H H2 b = some o := fun b o hb => by
  cases hc : H2 b with
  | none => rw [joinM_out hc]; exact hb
  | some o' =>
    have := (joinM_none (h2.own b o' hc).2.2).1
    rw [this] at hb
    cases hb
section
variable {P : Program} {n : Nat} {C : Ctx} {c : Code} {Q : Exit → St → Prop} {X : Nat → Option Obj}
theorem rel_unslc {S : Nat → Option (Option Box)} {ι : Nat → Nat × Nat} {A B : List CV} {k off len sz : Nat} {x : Box} (hsk : S k = some (some x)) {vs : List Value} (h : CVs.rel S ι (A ++ .slc k off len sz :: B) vs) : ∃ cap : Nat, len ≤ cap ∧ off + cap * sz ≤ (ι k).2 ∧ CVs.rel S ι (A ++ .val (.slice (some ⟨(ι k).1, off, none⟩) len cap) :: B) vs := by
  obtain ⟨va, v, vb, rfl, h1, h2, h3⟩ := rel_mid h
  simp only [CV.rel] at h2
  rw [hsk] at h2
  obtain ⟨cap, rfl, hc, hf⟩ := h2
  exact ⟨cap, hc, hf, CVs.rel_append h1 ⟨rfl, h3⟩⟩
theorem Rel.unslc {ι : Nat → Nat × Nat} {a : Act} {w : World} {s : List (Nat × LV)} {bx : List (Nat × Option Box)} {j k off len sz : Nat} {e : TypeId} {A B : List CV} {row : Bool} {x : Box}
    (hj : Nat.beq j k = false) (hkx : look k bx = some (some x))
    (hr : Rel n C ι ⟨s, (j, some ⟨e, A ++ .slc k off len sz :: B, row⟩) :: bx, X⟩ a w) :
    ∃ cap : Nat, len ≤ cap ∧ off + cap * sz ≤ (ι k).2 ∧ Rel n C ι ⟨s, (j, some ⟨e, A ++ .val (.slice (some ⟨(ι k).1, off, none⟩) len cap) :: B, row⟩) :: bx, X⟩ a w := by
  have hkj : k ≠ j := fun h => by rw [h, Nat.beq_refl] at hj; cases hj
  obtain ⟨arr, fr, g1, g2, g3, g4⟩ := hr.boxes j ⟨e, A ++ .slc k off len sz :: B, row⟩ (by rw [stat_hd, if_pos rfl]) rfl
  have hsk : (⟨s, (j, some ⟨e, A ++ .slc k off len sz :: B, row⟩) :: bx, X⟩ : St).stat k = some (some x) := by rw [stat_hd, if_neg hkj]; exact hkx
  have key : ∃ cap : Nat, len ≤ cap ∧ off + cap * sz ≤ (ι k).2 ∧ Box.rel (⟨s, (j, some ⟨e, A ++ .slc k off len sz :: B, row⟩) :: bx, X⟩ : St).stat ι ⟨e, A ++ .val (.slice (some ⟨(ι k).1, off, none⟩) len cap) :: B, row⟩ arr.toList := by
    unfold Box.rel at g4 ⊢
    cases row with
    | false => exact rel_unslc hsk g4
    | true =>
      obtain ⟨us, sp, e1, h1⟩ := g4
      obtain ⟨cap, hc, hf, h2⟩ := rel_unslc hsk h1
      exact ⟨cap, hc, hf, us, sp, e1, h2⟩
  obtain ⟨cap, hc, hf, g5⟩ := key
  refine ⟨cap, hc, hf, ?_⟩
  generalize hcs : A ++ .slc k off len sz :: B = cs at *
  generalize hcs' : A ++ .val (.slice (some ⟨(ι k).1, off, none⟩) len cap) :: B = cs' at *
  have hlater := later_hd (s := s) (bx := bx) (k := j) ι ⟨e, cs, row⟩ ⟨e, cs', row⟩ X X
  have live : ∀ i b, (⟨s, (j, some ⟨e, cs', row⟩) :: bx, X⟩ : St).stat i = some (some b) → ∃ b0, (⟨s, (j, some ⟨e, cs, row⟩) :: bx, X⟩ : St).stat i = some (some b0) ∧ (i ≠ j → b = b0) := fun i b hi => by
    rw [stat_hd] at hi ⊢
    by_cases e : i = j
    · rw [if_pos e]; exact ⟨_, rfl, fun h => absurd e h⟩
    · rw [if_neg e] at hi ⊢; exact ⟨b, hi, fun _ => rfl⟩
  exact {
    defers := hr.defers, size := hr.size
    slots := fun d lv hd => by
      obtain ⟨v, hv, hvr⟩ := hr.slots d lv hd
      exact ⟨v, hv, LV.rel_later hlater hvr⟩
    boxes := fun i b hi hbk => by
      by_cases ei : i = j
      · subst ei
        rw [stat_hd, if_pos rfl] at hi
        simp only [Option.some.injEq] at hi
        subst hi
        exact ⟨arr, fr, g1, g2, g3, Box.rel_later hlater g5⟩
      · obtain ⟨b0, h0, h1⟩ := live i b hi
        have := h1 ei
        subst this
        obtain ⟨arr, fr, g1, g2, g3, g4⟩ := hr.boxes i b h0 hbk
        exact ⟨arr, fr, g1, g2, g3, Box.rel_later hlater g4⟩
    own := fun i b hi => by obtain ⟨b0, h0, _⟩ := live i b hi; exact hr.own i b0 h0
    inj := fun i i' bi bj hi hj he => by
      obtain ⟨b1, h1, _⟩ := live i bi hi
      obtain ⟨b2, h2, _⟩ := live i' bj hj
      exact hr.inj i i' b1 b2 h1 h2 he
    keep := fun i b hi hge => by obtain ⟨b0, h0, _⟩ := live i b hi; exact hr.keep i b0 h0 hge
    ext := hr.ext
    res := by
      obtain ⟨F, hG⟩ := hr.res
      refine hG.keep (fun i e cs R hi => ?_) (fun _ _ _ _ _ hi => hi) (fun _ _ ho => ho) (fun b _ hx _ _ => hx) (fun i bi hi => ?_)
      · rw [stat_hd] at hi ⊢
        by_cases e : i = j
        · rw [if_pos e] at hi; cases hi
        · rw [if_neg e] at hi ⊢; exact ⟨hi, rfl⟩
      · obtain ⟨b0, h0, _⟩ := live i bi hi
        exact .inl ⟨b0, h0, rfl⟩
    frame := hr.frame, big := hr.big, os := hr.os, tape := hr.tape, output := hr.output }
theorem Rel.fixAlone {ι : Nat → Nat × Nat} {a : Act} {w : World} {s : List (Nat × LV)} {bx : List (Nat × Option Box)} {k : Nat} {e : TypeId} {cs : List CV} {R : Rsc}
    (hs : s.all (fun p => p.2.inUse bx) = true) (hb : bx.all (fun p => match p.2 with | some b => b.cells.all (CV.inUse bx) | none => true) = true) (hk : look k bx = none)
    (hr : Rel n C ι ⟨s, (k, some ⟨e, cs, .res R⟩) :: bx, X⟩ a w) :
    ∃ (H : Nat → Option Obj), R.holds (ι k) H ∧ OwnedM C X H ∧ Rel n C ι ⟨s, bx, joinM X H⟩ a w := by
  have hst : (⟨s, (k, some ⟨e, cs, .res R⟩) :: bx, X⟩ : St).stat k = some (some ⟨e, cs, .res R⟩) := by simp [St.stat, look]
  have hlk : ∀ k' x, look k' bx = some x → k' ≠ k := fun k' x h' e => by rw [e, hk] at h'; cases h'
  have hstb : ∀ k' x, look k' bx = some x → (⟨s, (k, some ⟨e, cs, .res R⟩) :: bx, X⟩ : St).stat k' = some x := fun k' x h' => by
    simp only [St.stat, look]
    cases e : Nat.beq k k' with
    | true => exact absurd (Nat.eq_of_beq_eq_true e).symm (hlk k' x h')
    | false => exact h'
  have hback : ∀ j x, j ≠ k → (⟨s, (k, some ⟨e, cs, .res R⟩) :: bx, X⟩ : St).stat j = some x → look j bx = some x := fun j x hj h' => by
    simp only [St.stat, look] at h'
    cases e : Nat.beq k j with
    | true => exact absurd (Nat.eq_of_beq_eq_true e).symm hj
    | false => rw [e] at h'; exact h'
  obtain ⟨F, hF⟩ := hr.res
  obtain ⟨hR, _⟩ := hF.holds k _ _ _ hst
  refine ⟨F k, hR, ⟨fun b o hb => let h := hF.mem k b o hb; ⟨h.2.2.2.1, h.2.2.1, h.2.2.2.2.1⟩⟩, ?_⟩
  have hon : SameOn bx (⟨s, (k, some ⟨e, cs, .res R⟩) :: bx, X⟩ : St).stat (fun k => look k bx) := fun k' x h' => (hstb k' x h').trans h'.symm
  have hnot : ∀ j b, look j bx = some (some b) → F k (ι j).1 = none := fun j b hj => by
    cases hc : F k (ι j).1 with
    | none => rfl
    | some o => exact absurd ((hF.mem k _ o hc).2.2.2.2.2 j b (hstb j _ hj) rfl) (hlk j _ hj)
  exact {
    defers := hr.defers, size := hr.size
    slots := fun d' lv hd => by
      obtain ⟨v', hv', hr'⟩ := hr.slots d' lv hd
      exact ⟨v', hv', LV.rel_on hon (List.all_eq_true.1 hs _ (look_mem hd)) hr'⟩
    boxes := fun k' b hb' hbk => by
      have hb' : look k' bx = some (some b) := hb'
      obtain ⟨arr', fr', h1, h2, h3, h4⟩ := hr.boxes k' b (hstb k' _ hb') hbk
      exact ⟨arr', fr', h1, h2, h3, Box.rel_on hon (by simpa using List.all_eq_true.1 hb _ (look_mem hb')) h4⟩
    own := fun k' b hb' => by
      have hb' : look k' bx = some (some b) := hb'
      obtain ⟨h1, h2⟩ := hr.own k' b (hstb k' _ hb')
      exact ⟨h1, (joinM_out (hnot k' b hb')).trans h2⟩
    inj := fun k1 k2 b1 b2 h1 h2 he => hr.inj k1 k2 b1 b2 (hstb k1 _ h1) (hstb k2 _ h2) he
    keep := fun k' b hb' hge => hr.keep k' b (hstb k' _ hb') hge
    ext := fun b o hbo => by
      have hbo : joinM X (F k) b = some o := hbo
      cases hc : F k b with
      | none => rw [joinM_out hc] at hbo; exact hr.ext b o hbo
      | some o' =>
        rw [joinM_in hc] at hbo
        cases hbo
        exact (hF.mem k b _ hc).2.1
    res := by
      refine ⟨fun j => open Classical in if j = k then fun _ => none else F j, fun j e' cs' R' hj => ?_, fun j b o ho => ?_, fun i j b h1 h2 => ?_⟩
      · have hj : look j bx = some (some ⟨e', cs', .res R'⟩) := hj
        rw [if_neg (hlk j _ hj)]
        exact hF.holds j e' cs' R' (hstb j _ hj)
      · by_cases ej : j = k
        · rw [if_pos ej] at ho; cases ho
        · rw [if_neg ej] at ho
          obtain ⟨⟨e1, cs1, R1, h1⟩, h2, h3, h4, h5, h6⟩ := hF.mem j b o ho
          refine ⟨⟨e1, cs1, R1, hback j _ ej h1⟩, h2, h3, h4, ?_, fun i bi hi ei => h6 i bi (hstb i _ hi) ei⟩
          have hc : F k b = none := by
            cases hc : F k b with
            | none => rfl
            | some o' => exact absurd (hF.apart j k b (by rw [ho]; simp) (by rw [hc]; simp)) ej
          exact (joinM_out hc).trans h5
      · by_cases ei : i = k
        · rw [if_pos ei] at h1; exact absurd rfl h1
        · by_cases ej : j = k
          · rw [if_pos ej] at h2; exact absurd rfl h2
          · rw [if_neg ei] at h1
            rw [if_neg ej] at h2
            exact hF.apart i j b h1 h2
    frame := hr.frame, big := hr.big, os := hr.os, tape := hr.tape, output := hr.output }
theorem Rel.fixCell {ι : Nat → Nat × Nat} {a : Act} {w : World} {s : List (Nat × LV)} {bx : List (Nat × Option Box)} {j k off len sz : Nat} {e e2 : TypeId} {A B cs : List CV} {row : Bool} {R : Rsc}
    (hs : s.all (fun p => p.2.inUse ((j, none) :: bx)) = true) (hA : A.all (CV.inUse ((j, none) :: bx)) = true) (hB : B.all (CV.inUse ((j, none) :: bx)) = true) (hb : bx.all (fun p => match p.2 with | some b => b.cells.all (CV.inUse ((j, none) :: bx)) | none => true) = true) (hk : look k bx = none) (hjk : Nat.beq j k = false)
    (hr : Rel n C ι ⟨s, (j, some ⟨e2, A ++ .slc k off len sz :: B, row⟩) :: (k, some ⟨e, cs, .res R⟩) :: bx, X⟩ a w) :
    ∃ (ρ : Nat × Nat) (H : Nat → Option Obj) (cap : Nat), R.holds ρ H ∧ OwnedM C X H ∧ len ≤ cap ∧ off + cap * sz ≤ ρ.2 ∧
      Rel n C ι ⟨s, (j, some ⟨e2, A ++ .val (.slice (some ⟨ρ.1, off, none⟩) len cap) :: B, row⟩) :: bx, joinM X H⟩ a w := by
  have hlk : look k ((k, some (⟨e, cs, .res R⟩ : Box)) :: bx) = some (some ⟨e, cs, .res R⟩) := by simp [look]
  obtain ⟨cap, hc, hf, hr2⟩ := hr.unslc hjk hlk
  have hr3 : Rel n C ι ⟨s, (k, some ⟨e, cs, .res R⟩) :: (j, some ⟨e2, A ++ .val (.slice (some ⟨(ι k).1, off, none⟩) len cap) :: B, row⟩) :: bx, X⟩ a w :=
    hr2.same ⟨fun _ => rfl, fun i => look_swap hjk, rfl⟩
  have any : ∀ (y : Option Box) {c : CV}, c.inUse ((j, none) :: bx) = true → c.inUse ((j, y) :: bx) = true := fun y c h => by
    cases c <;> first | rfl | (simp only [CV.inUse, look] at h ⊢; cases hjj : Nat.beq j _ <;> simp_all)
  have anyS : ∀ (y : Option Box) {c : SV}, c.inUse ((j, none) :: bx) = true → c.inUse ((j, y) :: bx) = true := fun y c h => by
    cases c with
    | one c => exact any y h
    | agg l => exact List.all_eq_true.2 fun c hc => any y (List.all_eq_true.1 h c hc)
  have anyL : ∀ (y : Option Box) {c : LV}, c.inUse ((j, none) :: bx) = true → c.inUse ((j, y) :: bx) = true := fun y c h => by
    cases c with
    | sv c => exact anyS y h
    | tup l => exact List.all_eq_true.2 fun c hc => anyS y (List.all_eq_true.1 h c hc)
  obtain ⟨H, hR, hO, hr4⟩ := hr3.fixAlone (List.all_eq_true.2 fun p hp => anyL _ (List.all_eq_true.1 hs p hp)) (by
    rw [List.all_cons, Bool.and_eq_true]
    refine ⟨?_, List.all_eq_true.2 fun p hp => ?_⟩
    · show (A ++ .val _ :: B).all _ = true
      rw [List.all_append, List.all_cons, Bool.and_eq_true, Bool.and_eq_true]
      exact ⟨List.all_eq_true.2 fun c hc => any _ (List.all_eq_true.1 hA c hc), rfl, List.all_eq_true.2 fun c hc => any _ (List.all_eq_true.1 hB c hc)⟩
    · have := List.all_eq_true.1 hb p hp
      cases hp2 : p.2 with
      | none => rfl
      | some b =>
        rw [hp2] at this
        exact List.all_eq_true.2 fun c hc => any _ (List.all_eq_true.1 this c hc)) (by
    simp only [look, hjk]
    exact hk)
  exact ⟨ι k, H, cap, hR, hO, hc, hf, hr4⟩
theorem LWP.fixCell {s : List (Nat × LV)} {bx : List (Nat × Option Box)} {j k off len sz : Nat} {e e2 : TypeId} {A B cs : List CV} {row : Bool} {R : Rsc}
    (hs : s.all (fun p => p.2.inUse ((j, none) :: bx)) = true) (hA : A.all (CV.inUse ((j, none) :: bx)) = true) (hB : B.all (CV.inUse ((j, none) :: bx)) = true) (hb : bx.all (fun p => match p.2 with | some b => b.cells.all (CV.inUse ((j, none) :: bx)) | none => true) = true) (hk : look k bx = none) (hjk : Nat.beq j k = false)
    (h : ∀ (ρ : Nat × Nat) (H : Nat → Option Obj) (cap : Nat), R.holds ρ H → OwnedM C X H → len ≤ cap → off + cap * sz ≤ ρ.2 → LWP P n C c Q ⟨s, (j, some ⟨e2, A ++ .val (.slice (some ⟨ρ.1, off, none⟩) len cap) :: B, row⟩) :: bx, joinM X H⟩) :
    LWP P n C c Q ⟨s, (j, some ⟨e2, A ++ .slc k off len sz :: B, row⟩) :: (k, some ⟨e, cs, .res R⟩) :: bx, X⟩ := by
  refine ⟨fun ι a w hr => ?_⟩
  obtain ⟨ρ, H, cap, h1, h2, h3, h4, h5⟩ := hr.fixCell hs hA hB hb hk hjk
  exact (h ρ H cap h1 h2 h3 h4).out ι a w h5
end
end Go.Lg
end
section
namespace Go.Proofs.YtbpdbclndfmcgaaGreatDoor
open Go Go.Lg Go.Lg.Fld Go.Lg.Sg
set_option maxRecDepth 100000
theorem addE_facts {t : Tb} {e : Nat} {l : List Pt} : (e = 0 ∧ addE t e l = 1) ∨ (e ≠ 0 ∧ justP (idsL t.set) l = false ∧ addE t e l = 4) ∨ (e ≠ 0 ∧ justP (idsL t.set) l = true ∧ partsE t.sc.cs l ≠ 0 ∧ addE t e l = partsE t.sc.cs l) ∨
    (e ≠ 0 ∧ justP (idsL t.set) l = true ∧ partsE t.sc.cs l = 0 ∧ roomT t = 0 ∧ addE t e l = 5) ∨ (e ≠ 0 ∧ justP (idsL t.set) l = true ∧ partsE t.sc.cs l = 0 ∧ roomT t ≠ 0 ∧ addE t e l = 0) := by
  unfold addE
  by_cases c1 : e = 0
  · exact .inl ⟨c1, if_pos c1⟩
  rw [if_neg c1]
  cases c2 : justP (idsL t.set) l with
  | false => exact .inr (.inl ⟨c1, rfl, rfl⟩)
  | true =>
  rw [if_pos rfl]
  by_cases c3 : partsE t.sc.cs l = 0
  case neg => exact .inr (.inr (.inl ⟨c1, rfl, c3, if_neg c3⟩))
  rw [if_pos c3]
  by_cases c4 : roomT t = 0
  · exact .inr (.inr (.inr (.inl ⟨c1, rfl, c3, c4, if_pos c4⟩)))
  · exact .inr (.inr (.inr (.inr ⟨c1, rfl, c3, c4, if_neg c4⟩)))
variable (X : Nat → Option Obj)
end Go.Proofs.YtbpdbclndfmcgaaGreatDoor
end
section
namespace Go.Lg.Col
open Go Go.Lg Go.RowKit
abbrev Ext (X Y : Nat → Option Obj) : Prop := ∀ b o, X b = some o → Y b = some o
def swapL (L : List (List UInt8)) (i : Nat) : List (List UInt8) := match L[L.length - 1]? with | some l => (L.set i l).take (L.length - 1) | none => L
theorem swapL_at {L : List (List UInt8)} {i : Nat} {l : List UInt8} (h : L[L.length - 1]? = some l) : swapL L i = (L.set i l).take (L.length - 1) := by unfold swapL; rw [h]
theorem swapL_len {L : List (List UInt8)} {i : Nat} (h : 0 < L.length) : (swapL L i).length = L.length - 1 := by
  obtain ⟨l, hl⟩ : ∃ l, L[L.length - 1]? = some l := ⟨_, List.getElem?_eq_getElem (by omega)⟩
  rw [swapL_at hl, List.length_take, List.length_set]; omega
end Go.Lg.Col
namespace Go.Proofs.YtbpdbclndfmcgaaGreatDoor
open Go Go.Lg Go.Lg.Col
set_option maxRecDepth 100000
variable (X : Nat → Option Obj)
end Go.Proofs.YtbpdbclndfmcgaaGreatDoor
end
section
namespace Go.Lg.Col
open Go Go.Lg
def byV (l : List UInt8) : List Value := l.map fun c => .int .u8 (c.toNat : Nat)
theorem byV_bc (l : List UInt8) : (byV l).map CV.val = l.map bc := by unfold byV; rw [List.map_map]; rfl
theorem byV_len (l : List UInt8) : (byV l).length = l.length := List.length_map _
theorem mid_of {α : Type} {l : List α} {i : Nat} {x : α} (h : l[i]? = some x) : l = l.take i ++ x :: l.drop (i + 1) := by
  obtain ⟨hi, e⟩ := List.getElem?_eq_some_iff.1 h
  rw [← e, List.getElem_cons_drop, List.take_append_drop]
theorem splice_len {α : Type} {b : List α} {p : Nat} {r : List α} (h : p + r.length ≤ b.length) : (splice b p r).length = b.length := by
  unfold splice; simp only [List.length_append, List.length_take, List.length_drop]; omega
theorem splice_at {α : Type} {b : List α} {p : Nat} {r : List α} (h : p + r.length ≤ b.length) : ((splice b p r).drop p).take r.length = r := by
  unfold splice
  have hp : (b.take p).length = p := by rw [List.length_take]; omega
  rw [List.append_assoc]
  conv => lhs; arg 2; arg 1; rw [← hp]
  rw [List.drop_left, List.take_left]
theorem splice_out {α : Type} {b : List α} {p k : Nat} {r : List α} (h : p + r.length ≤ b.length) (hk : k < p ∨ p + r.length ≤ k) : (splice b p r)[k]? = b[k]? := by
  unfold splice
  have hp : (b.take p).length = p := by rw [List.length_take]; omega
  rcases hk with hk | hk
  · rw [List.append_assoc, List.getElem?_append_left (by omega), List.getElem?_take, if_pos hk]
  · rw [List.getElem?_append_right (by rw [List.length_append]; omega), List.length_append, hp, List.getElem?_drop]
    congr 1; omega
def rowOf (B : List (List UInt8)) (z i : Nat) : List UInt8 := ((B.getD (i / 16) []).drop (i % 16 * z)).take z
theorem place_fit (i z : Nat) : i % 16 * z + z ≤ 16 * z := by
  have h : (i % 16 + 1) * z ≤ 16 * z := Nat.mul_le_mul_right z (by omega)
  rw [Nat.succ_mul] at h; exact h
theorem getD_at {α : Type} {B : List α} {p : Nat} {d : α} (h : p < B.length) : B[p]? = some (B.getD p d) := by
  rw [List.getD_eq_getElem?_getD, List.getElem?_eq_getElem h]; rfl
theorem wide_at {B : List (List UInt8)} {w p : Nat} (hw : ∀ b ∈ B, b.length = w) (h : p < B.length) : (B.getD p []).length = w := hw _ (List.mem_of_getElem? (getD_at h))
def wr (B : List (List UInt8)) (z i : Nat) (row : List UInt8) : List (List UInt8) := B.set (i / 16) (splice (B.getD (i / 16) []) (i % 16 * z) row)
theorem wr_len (B : List (List UInt8)) (z i : Nat) (row : List UInt8) : (wr B z i row).length = B.length := List.length_set ..
theorem wr_wide {B : List (List UInt8)} {z i : Nat} {row : List UInt8} (hw : ∀ b ∈ B, b.length = 16 * z) (hi : i / 16 < B.length) (hr : row.length = z) : ∀ b ∈ wr B z i row, b.length = 16 * z := fun b hb => by
  rcases List.mem_or_eq_of_mem_set hb with hb | rfl
  · exact hw b hb
  · have := place_fit i z
    rw [splice_len (by rw [wide_at hw hi, hr]; omega), wide_at hw hi]
theorem wr_same {B : List (List UInt8)} {z i : Nat} {row : List UInt8} (hw : ∀ b ∈ B, b.length = 16 * z) (hi : i / 16 < B.length) (hr : row.length = z) : rowOf (wr B z i row) z i = row := by
  unfold rowOf wr
  have := place_fit i z
  rw [List.getD_eq_getElem?_getD, List.getElem?_set_self hi, Option.getD_some]
  conv => lhs; arg 1; rw [← hr]
  rw [hr]
  have h := splice_at (b := B.getD (i / 16) []) (p := i % 16 * z) (r := row) (by rw [wide_at hw hi, hr]; omega)
  rw [hr] at h; exact h
theorem wr_other {B : List (List UInt8)} {z i j : Nat} {row : List UInt8} (hw : ∀ b ∈ B, b.length = 16 * z) (hi : i / 16 < B.length) (hr : row.length = z) (hj : j ≠ i) : rowOf (wr B z i row) z j = rowOf B z j := by
  unfold rowOf wr
  have hf := place_fit i z
  by_cases e : i / 16 = j / 16
  · rw [← e, List.getD_eq_getElem?_getD, List.getElem?_set_self hi, Option.getD_some]
    apply List.ext_getElem?
    intro t
    rw [List.getElem?_take, List.getElem?_take]
    by_cases ht : t < z
    · rw [if_pos ht, if_pos ht, List.getElem?_drop, List.getElem?_drop]
      refine splice_out (by rw [wide_at hw hi, hr]; omega) ?_
      rw [hr]
      have hne : j % 16 ≠ i % 16 := fun h => hj (by omega)
      rcases Nat.lt_or_gt_of_ne hne with h | h
      · left
        have h2 : (j % 16 + 1) * z ≤ i % 16 * z := Nat.mul_le_mul_right z h
        rw [Nat.succ_mul] at h2; omega
      · right
        have h2 : (i % 16 + 1) * z ≤ j % 16 * z := Nat.mul_le_mul_right z h
        rw [Nat.succ_mul] at h2; omega
    · rw [if_neg ht, if_neg ht]
  · rw [List.getD_eq_getElem?_getD, List.getElem?_set_ne e, ← List.getD_eq_getElem?_getD]
structure Packed (z q : Nat) (L B : List (List UInt8)) : Prop where
  nb : B.length = (L.length + 15) / 16
  wide : ∀ b ∈ B, b.length = 16 * z
  row : ∀ (i : Nat) (l : List UInt8), L[i]? = some l → rowOf B z i = l
  rows : ∀ r ∈ L, r.length = z
  fit : L.length ≤ q
  small : z ≤ 256 ∧ q ≤ 65536
section
variable {z q : Nat} {L B : List (List UInt8)}
theorem Packed.nil (h : z ≤ 256 ∧ q ≤ 65536) : Packed z q [] [] := ⟨rfl, fun b hb => (by cases hb), fun i l hl => (by cases hl), fun b hb => (by cases hb), Nat.zero_le _, h⟩
theorem Packed.chunk (h : Packed z q L B) {i : Nat} (hi : i < L.length) : i / 16 < B.length := by rw [h.nb]; omega
theorem Packed.len_at (h : Packed z q L B) {p : Nat} (hp : p < B.length) : (B.getD p []).length = 16 * z := wide_at h.wide hp
theorem Packed.set (h : Packed z q L B) {i : Nat} (hi : i < L.length) {row : List UInt8} (hr : row.length = z) : Packed z q (L.set i row) (wr B z i row) := by
  have hp := h.chunk hi
  refine ⟨by rw [wr_len, List.length_set]; exact h.nb, wr_wide h.wide hp hr, fun j l hl => ?_, fun r hr' => ?_, by rw [List.length_set]; exact h.fit, h.small⟩
  · by_cases e : j = i
    · subst e
      rw [List.getElem?_set_self hi] at hl
      simp only [Option.some.injEq] at hl
      rw [wr_same h.wide hp hr, hl]
    · rw [List.getElem?_set_ne (fun e' => e e'.symm)] at hl
      rw [wr_other h.wide hp hr e]; exact h.row j l hl
  · rcases List.mem_or_eq_of_mem_set hr' with hr' | rfl
    · exact h.rows r hr'
    · exact hr
theorem Packed.push (h : Packed z q L B) {row : List UInt8} (hr : row.length = z) (hf : L.length < q) (hn : L.length % 16 ≠ 0) : Packed z q (L ++ [row]) (wr B z L.length row) := by
  have hp : L.length / 16 < B.length := by rw [h.nb]; omega
  refine ⟨by rw [wr_len, List.length_append, h.nb]; simp only [List.length_singleton]; omega, wr_wide h.wide hp hr, fun j l hl => ?_, fun r hr' => ?_, by rw [List.length_append]; exact hf, h.small⟩
  · by_cases e : j = L.length
    · subst e
      rw [List.getElem?_append_right (Nat.le_refl _), Nat.sub_self] at hl
      simp only [List.getElem?_cons_zero, Option.some.injEq] at hl
      rw [wr_same h.wide hp hr, hl]
    · have h1 := (List.getElem?_eq_some_iff.1 hl).1
      rw [List.length_append] at h1
      simp only [List.length_singleton] at h1
      rw [List.getElem?_append_left (by omega)] at hl
      rw [wr_other h.wide hp hr e]; exact h.row j l hl
  · rcases List.mem_append.1 hr' with hr' | hr'
    · exact h.rows r hr'
    · rw [List.mem_singleton.1 hr']; exact hr
theorem Packed.push_new (h : Packed z q L B) {row : List UInt8} (hr : row.length = z) (hf : L.length < q) (hn : L.length % 16 = 0) : Packed z q (L ++ [row]) (wr (B ++ [List.replicate (16 * z) 0]) z L.length row) := by
  have hb : B.length = L.length / 16 := by rw [h.nb]; omega
  have hw : ∀ b ∈ B ++ [List.replicate (16 * z) (0 : UInt8)], b.length = 16 * z := fun b hb => by
    rcases List.mem_append.1 hb with hb | hb
    · exact h.wide b hb
    · rw [List.mem_singleton.1 hb, List.length_replicate]
  have hp : L.length / 16 < (B ++ [List.replicate (16 * z) (0 : UInt8)]).length := by rw [List.length_append]; simp only [List.length_singleton]; omega
  refine ⟨by rw [wr_len, List.length_append, List.length_append, hb]; simp only [List.length_singleton]; omega, wr_wide hw hp hr, fun j l hl => ?_, fun r hr' => ?_, by rw [List.length_append]; exact hf, h.small⟩
  · by_cases e : j = L.length
    · subst e
      rw [List.getElem?_append_right (Nat.le_refl _), Nat.sub_self] at hl
      simp only [List.getElem?_cons_zero, Option.some.injEq] at hl
      rw [wr_same hw hp hr, hl]
    · have h1 := (List.getElem?_eq_some_iff.1 hl).1
      rw [List.length_append] at h1
      simp only [List.length_singleton] at h1
      rw [List.getElem?_append_left (by omega)] at hl
      rw [wr_other hw hp hr e, ← h.row j l hl]
      unfold rowOf
      rw [List.getD_eq_getElem?_getD, List.getElem?_append_left (by omega), ← List.getD_eq_getElem?_getD]
  · rcases List.mem_append.1 hr' with hr' | hr'
    · exact h.rows r hr'
    · rw [List.mem_singleton.1 hr']; exact hr
theorem Packed.take (h : Packed z q L B) {n : Nat} (hn : n ≤ L.length) : Packed z q (L.take n) (B.take ((n + 15) / 16)) := by
  refine ⟨by rw [List.length_take, List.length_take, h.nb]; omega, fun b hb => h.wide b (List.mem_of_mem_take hb), fun j l hl => ?_, fun r hr => h.rows r (List.mem_of_mem_take hr), by have := h.fit; rw [List.length_take]; omega, h.small⟩
  rw [List.getElem?_take] at hl
  split at hl
  · rw [← h.row j l hl]
    unfold rowOf
    rw [List.getD_eq_getElem?_getD, List.getElem?_take, if_pos (by omega), ← List.getD_eq_getElem?_getD]
  · cases hl
theorem Packed.swap (h : Packed z q L B) {i : Nat} (hi : i < L.length) {l : List UInt8} (hl : L[L.length - 1]? = some l) : Packed z q (swapL L i) ((wr B z i l).take ((L.length - 1 + 15) / 16)) := by
  rw [swapL_at hl]
  exact (h.set hi (h.rows l (List.mem_of_getElem? hl))).take (by rw [List.length_set]; omega)
end
structure ColIn (H : Nat → Option Obj) (st : TypeId) (z q : Nat) (L B : List (List UInt8)) (v : Value) (cells : List Value) : Prop where
  grid : Grid H st 5 v cells (B.map byV)
  pk : Packed z q L B
section
variable {H : Nat → Option Obj} {st : TypeId} {z q : Nat} {L B : List (List UInt8)} {v : Value} {cells : List Value}
theorem ColIn.len (h : ColIn H st z q L B v cells) : cells.length = B.length := by rw [h.grid.len, List.length_map]
theorem ColIn.slice (h : ColIn H st z q L B v cells) : ∃ ad cap, v = .slice ad B.length cap := by
  rcases h.grid with ⟨db, hd, G⟩ | ⟨rfl, rfl, hb⟩
  · obtain ⟨len, cap, arr, fr, rfl, h2, _⟩ := hd
    rw [h.len] at h2
    have e : len = B.length := by omega
    rw [e]; exact ⟨_, _, rfl⟩
  · have : B.length = 0 := by rw [← List.length_map (f := byV), hb]; rfl
    rw [this]; exact ⟨none, 0, rfl⟩
theorem ColIn.place (h : ColIn H st z q L B v cells) {p : Nat} (hp : p < B.length) : ∃ (db cap : Nat) (arr : Array Value) (fr : Nat × Nat) (b cap2 : Nat) (arr2 : Array Value) (fr2 : Nat × Nat) (sp : List Value),
    v = .slice (some ⟨db, 0, none⟩) B.length cap ∧ H db = some (.cells arr st fr) ∧ arr[p]? = some (.slice (some ⟨b, 0, none⟩) (16 * z) cap2) ∧ 16 * z ≤ cap2 ∧ H b = some (.cells arr2 5 fr2) ∧ arr2.toList = byV (B.getD p []) ++ sp := by
  obtain ⟨db, hd, G⟩ := h.grid.real (fun e => by
    have : B.length = 0 := by rw [← List.length_map (f := byV), e]; rfl
    omega)
  obtain ⟨len, cap, arr, fr, rfl, h2, h3, h4, h5, spd, h6⟩ := hd
  rw [h.len] at h2
  have e : len = B.length := by omega
  subst e
  obtain ⟨c, hc⟩ : ∃ c, cells[p]? = some c := ⟨_, List.getElem?_eq_getElem (by rw [h.len]; exact hp)⟩
  obtain ⟨b, hb⟩ := G.at_ p c (byV (B.getD p [])) (by simp) hc (by rw [List.getElem?_map, getD_at (d := []) hp]; rfl)
  obtain ⟨len2, cap2, arr2, fr2, rfl, g2, g3, g4, g5, sp, g6⟩ := hb
  rw [byV_len, h.pk.len_at hp] at g2
  have e : len2 = 16 * z := by omega
  subst e
  refine ⟨db, cap, arr, fr, b, cap2, arr2, fr2, sp, rfl, h5, ?_, g3, (cutM_some g5).2, g6⟩
  rw [← Array.getElem?_toList, h6, List.getElem?_append_left (List.getElem?_eq_some_iff.1 hc).1]; exact hc
theorem chunk_read {arr : Array Value} {ch : List UInt8} {sp : List Value} {p z : Nat} (h : arr.toList = byV ch ++ sp) (hp : p + z ≤ ch.length) : p + z ≤ arr.size ∧ (arr.toList.drop p).take z = byV ((ch.drop p).take z) := by
  have hl : p + z ≤ (byV ch).length := by rw [byV_len]; exact hp
  refine ⟨by rw [← Array.length_toList, h, List.length_append]; omega, ?_⟩
  rw [h, List.drop_append_of_le_length (by omega), List.take_append_of_le_length (by rw [List.length_drop]; omega)]
  unfold byV
  rw [List.map_take, List.map_drop]
end
end Go.Lg.Col
namespace Go.Proofs.YtbpdbclndfmcgaaGreatDoor
open Go Go.Lg Go.Lg.Col
set_option maxRecDepth 100000
def stV (z q n : Nat) (v : Value) : List Value := [.int .i64 (z : Nat), .int .i64 (q : Nat), .int .i64 (n : Nat), v]
def colR (z q : Nat) (L : List (List UInt8)) : Rsc := ⟨fun ρ H => ρ.2 = 4 ∧ ∃ (fr : Nat × Nat) (v : Value) (cells : List Value) (B : List (List UInt8)),
  H ρ.1 = some (.cells (stV z q L.length v).toArray 143 fr) ∧ ColIn (cutM H ρ.1) 151 z q L B v cells⟩
abbrev cB (k size cap : Nat) (L : List (List UInt8)) : Nat × Option Box := (k, some ⟨0, [], .res (colR size cap L)⟩)
theorem root_ok (z q : Nat) (L : List (List UInt8)) : ∀ ρ H, (colR z q L).holds ρ H → ∃ vals el fr, H ρ.1 = some (.cells vals el fr) ∧ vals.size = ρ.2 := fun ρ H h => by
  obtain ⟨h1, fr, v, cells, B, h2, _⟩ := h
  exact ⟨_, _, fr, h2, by rw [h1]; rfl⟩
abbrev sB (k z q n : Nat) (v : CV) : Nat × Option Box := (k, some ⟨143, [.val (.int .i64 (z : Nat)), .val (.int .i64 (q : Nat)), .val (.int .i64 (n : Nat)), v], false⟩)
abbrev oBr (z q m p : Nat) (cells : List Value) (ch : List UInt8) (r : Bool) : List (Nat × Option Box) :=
  [sB 1000000 z q m (.slc 900001 0 cells.length), (900001, some ⟨151, (cells.take p).map .val ++ .slc 900002 0 ch.length :: (cells.drop (p + 1)).map .val, true⟩), (900002, some ⟨5, ch.map bc, r⟩)]
abbrev oB (z q m p : Nat) (cells : List Value) (ch : List UInt8) : List (Nat × Option Box) := oBr z q m p cells ch true
section
variable {P : Program} {n : Nat} {C : Ctx} {c : Code} {Q : Exit → St → Prop} {X : Nat → Option Obj} {s : List (Nat × LV)} {bx : List (Nat × Option Box)} {k : Nat}
theorem col_open {z q : Nat} {L : List (List UInt8)}
    (h : ∀ (H : Nat → Option Obj) (v : Value) (cells : List Value) (B : List (List UInt8)), OwnedM C X H → ColIn H 151 z q L B v cells → LWP P n C c Q ⟨s, sB k z q L.length (.val v) :: bx, joinM X H⟩) :
    LWP P n C c Q ⟨s, cB k z q L :: bx, X⟩ := by
  refine LWP.openRes (root_ok z q L) fun ρ H vals el fr hR hv hO => ?_
  obtain ⟨h1, fr', v, cells, B, h2, h3⟩ := hR
  rw [hv] at h2
  simp only [Option.some.injEq, Obj.cells.injEq] at h2
  obtain ⟨rfl, rfl, rfl⟩ := h2
  exact h (cutM H ρ.1) v cells B (hO.cut _) h3
theorem col_shut {Mid : St → Prop} {z q : Nat} {L B : List (List UInt8)} {H : Nat → Option Obj} {v : Value} {cells : List Value} (hO : OwnedM C X H) (hI : ColIn H 151 z q L B v cells)
    (h : Leads n C Mid ⟨s, cB k z q L :: bx, X⟩) : Leads n C Mid ⟨s, sB k z q L.length (.val v) :: bx, joinM X H⟩ := by
  refine Leads.closeRes (vals := stV z q L.length v) hO (fun ρ fr h1 h2 h3 => ?_) h
  refine ⟨h3, fr, v, cells, B, withBlock_at _ _ _, ?_⟩
  rw [cut_with h1]; exact hI
theorem chunk_open {z q m p : Nat} {L B : List (List UInt8)} {H : Nat → Option Obj} {v : Value} {cells : List Value} (hO : OwnedM C X H) (hI : ColIn H 151 z q L B v cells) (hp : p < B.length)
    (hs2 : ∀ v, s.all (fun p => p.2.inUse [sB 1000000 z q m (.val v)]) = true) (hs3 : ∀ nc b, s.all (fun p => p.2.inUse [(900001, b), sB 1000000 z q m (.slc 900001 0 nc)]) = true)
    (h : ∀ (H0 : Nat → Option Obj), OwnedM C X H0 → Cells H0 5 [p] cells (B.map byV) → (∀ (j : Nat) (c : Value), j ≠ p → cells[j]? = some c → ∃ (b cap : Nat) (arr : Array Value) (fr : Nat × Nat) (sp : List Value), c = .slice (some ⟨b, 0, none⟩) (16 * z) cap ∧ 16 * z ≤ cap ∧ H0 b = some (.cells arr 5 fr) ∧ arr.toList = byV (B.getD j []) ++ sp) →
      LWP P n C c Q ⟨s, oB z q m p cells (B.getD p []), joinM X H0⟩) :
    LWP P n C c Q ⟨s, [sB 1000000 z q m (.val v)], joinM X H⟩ := by
  obtain ⟨db, hd, G⟩ := hI.grid.real (fun e => by
    have : B.length = 0 := by rw [← List.length_map (f := byV), e]; rfl
    omega)
  have hcl : cells.length = B.length := hI.len
  obtain ⟨cell, hcell⟩ : ∃ c, cells[p]? = some c := ⟨_, List.getElem?_eq_getElem (by omega)⟩
  obtain ⟨b, hb⟩ := G.at_ _ _ _ (by simp) hcell (by rw [List.getElem?_map, getD_at (d := []) hp]; rfl)
  have G2 := G.openAt (p := p) (by simp) hcell hb.blk
  have hO2 := (hO.cut db).cut b
  refine LWP.openCell (A := [.val (.int .i64 (z : Nat)), .val (.int .i64 (q : Nat)), .val (.int .i64 (m : Nat))]) (B := []) (k := 900001) (sz := 1) (len := cells.length) hO hd (by omega) (by omega) (hs2 v) rfl rfl rfl rfl ?_
  have hmid : cells.map CV.val = (cells.take p).map .val ++ .val cell :: (cells.drop (p + 1)).map .val := by
    conv => lhs; rw [mid_of hcell]
    simp
  refine LWP.le (σ' := ⟨s, [(900001, some ⟨151, (cells.take p).map .val ++ .val cell :: (cells.drop (p + 1)).map .val, true⟩), sB 1000000 z q m (.slc 900001 0 cells.length)], joinM X (cutM H db)⟩) ?_ ?_
  · rw [← hmid]
    exact Le.same ⟨fun _ => rfl, fun j => look_swap rfl, rfl⟩
  refine LWP.openCell (k := 900002) (sz := 1) (len := (B.getD p []).length) (hO.cut db) hb (by rw [byV_len]; omega) (by omega) (hs3 _ _) (by exact (by repeat' (first | refine all_cons_true ?_ ?_ | rfl | exact bytes_inUse | exact vals_inUse | exact mid_inUse rfl))) rfl rfl rfl ?_
  rw [byV_bc]
  refine LWP.le (σ' := ⟨s, oB z q m p cells (B.getD p []), joinM X (cutM (cutM H db) b)⟩) ?_ (h _ hO2 G2 (fun j c hj hc => ?_))
  · exact Le.same ⟨fun _ => rfl, fun j => look_rot rfl rfl, rfl⟩
  · have hjl : j < B.length := by rw [← hcl]; exact (List.getElem?_eq_some_iff.1 hc).1
    obtain ⟨b', len', cap', arr, fr, rfl, g2, g3, g4, g5, sp, g6⟩ := G2.at_ j c (byV (B.getD j [])) (by simpa using hj) hc (by rw [List.getElem?_map, getD_at (d := []) hjl]; rfl)
    rw [byV_len, hI.pk.len_at hjl] at g2
    have e : len' = 16 * z := by omega
    subst e
    exact ⟨b', cap', arr, fr, sp, rfl, g3, g5, g6⟩
theorem chunk_shut {Mid : St → Prop} {r : Bool} {z q m p : Nat} {H0 : Nat → Option Obj} {cells : List Value} {ch : List UInt8} {B : List (List UInt8)} (hp : p < cells.length) (hO : OwnedM C X H0) (G : Cells H0 5 [p] cells (B.map byV))
    (hs : s.all (fun p => p.2.inUse [(900001, none), sB 1000000 z q m (.slc 900001 0 cells.length)]) = true) (hs2 : s.all (fun p => p.2.inUse [(1000000, none)]) = true)
    (h : ∀ (H : Nat → Option Obj) (v : Value) (cells : List Value), OwnedM C X H → Grid H 151 5 v cells ((B.set p ch).map byV) → Leads n C Mid ⟨s, [sB 1000000 z q m (.val v)], joinM X H⟩) : Leads n C Mid ⟨s, oBr z q m p cells ch r, joinM X H0⟩ := by
  refine Leads.le (σ' := ⟨s, [(900001, some ⟨151, (cells.take p).map .val ++ .slc 900002 0 ch.length :: (cells.drop (p + 1)).map .val, true⟩), (900002, some ⟨5, (byV ch).map .val, r⟩), sB 1000000 z q m (.slc 900001 0 cells.length)], joinM X H0⟩) ?_ ?_
  · rw [byV_bc]
    exact Le.same ⟨fun _ => rfl, fun j => (look_rot rfl rfl).symm, rfl⟩
  refine Leads.closeCell hO (by rw [byV_len]; omega) hs vals_inUse vals_inUse (by exact (by repeat' (first | refine all_cons_true ?_ ?_ | rfl | exact bytes_inUse | exact vals_inUse | exact mid_inUse rfl))) rfl rfl fun b1 o1 v1 h1 _ hO3 hv1 => ?_
  have G3 := G.shutAt hp h1 hv1
  have hset : (cells.take p).map CV.val ++ .val v1 :: (cells.drop (p + 1)).map .val = (cells.set p v1).map .val := by
    rw [List.set_eq_take_append_cons_drop, if_pos (by omega)]; simp
  rw [hset]
  refine Leads.le (σ' := ⟨s, [(1000000, some ⟨143, [.val (.int .i64 (z : Nat)), .val (.int .i64 (q : Nat)), .val (.int .i64 (m : Nat))] ++ .slc 900001 0 cells.length :: [], false⟩), (900001, some ⟨151, (cells.set p v1).map .val, true⟩)], joinM X (withBlock H0 b1 o1)⟩) ?_ ?_
  · exact Le.same ⟨fun _ => rfl, fun j => look_swap rfl, rfl⟩
  refine Leads.closeCell hO3 (by rw [List.length_set]; omega) hs2 rfl rfl rfl rfl rfl fun d1 o2 v2 h2 _ hO4 hv2 => ?_
  refine h _ v2 (cells.set p v1) hO4 ?_
  rw [List.map_set]
  exact Grid.shut G3 h2 hv2
end
end Go.Proofs.YtbpdbclndfmcgaaGreatDoor
end
