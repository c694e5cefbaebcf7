/- A piece of a proof over this program: contracts of its functions, and a logic to prove them by. -/
import Derived.Test.YtfmohdliifmmfaaLg16
namespace Go.Lg
open Go Go.RowKit
def slcInfo (P : Program) (t : TypeId) : Option (TypeId × Nat × Nat) :=
  match P.underlying t with
  | some (.slice e) =>
    match P.info? e with
    | some ie => match ie.zero with
      | some z => if z.cells.size = ie.size then some (e, ie.size, ie.bytes) else none
      | none => none
    | none => none
  | _ => none
section
variable {P : Program} {n : Nat} {ops os : List Oper} {acc : List Eff} {K : List Eff → St → Prop} {s : List (Nat × LV)} {bx : List (Nat × Option Box)} {X : Nat → Option Obj} {σ : St} {C : Ctx} {ι : Nat → Nat × Nat} {a : Act} {w : World}
theorem slcInfo_spec {t e : TypeId} {sz by_ : Nat} (h : slcInfo P t = some (e, sz, by_)) : ∃ ie z, P.underlying t = some (.slice e) ∧ P.info? e = some ie ∧ ie.zero = some z ∧ ie.size = sz ∧ ie.bytes = by_ ∧ z.cells.size = sz := by
  unfold slcInfo at h
  cases hu : P.underlying t with
  | none => simp [hu] at h
  | some d =>
    cases d <;> simp only [hu] at h <;> try (simp at h; done)
    rename_i e'
    cases hi : P.info? e' with
    | none => simp [hi] at h
    | some ie =>
      cases hz : ie.zero with
      | none => simp [hi, hz] at h
      | some z =>
        simp only [hi, hz] at h
        by_cases hs : z.cells.size = ie.size
        · rw [if_pos hs] at h
          simp only [Option.some.injEq, Prod.mk.injEq] at h
          obtain ⟨h1, h2, h3⟩ := h
          subst h1
          exact ⟨ie, z, rfl, hi, hz, h2, h3, hs.trans h2⟩
        · rw [if_neg hs] at h; cases h
/-- a name is left, its block goes on under another one -/
theorem Rel.move (h : Rel n C ι σ a w) {k d : Nat} (hlt : d < 1000000) {b b' : Box} (hk : σ.stat k = some (some b)) (hd : σ.stat d = none) (he : b'.elem = b.elem) {arr : Array Value} (hs : arr.size = (ι k).2) (hb : b'.rel σ.stat ι arr.toList) :
    Rel n C (put1 ι d (ι k)) ⟨σ.slots, (d, some b') :: (k, none) :: σ.boxes, σ.X⟩ a (w.setRow (ι k).1 arr) := by
  have hkd : k ≠ d := fun e => by rw [e, hd] at hk; cases hk
  have hst : ∀ j, (⟨σ.slots, (d, some b') :: (k, none) :: σ.boxes, σ.X⟩ : St).stat j = if j = d then some (some b') else if j = k then some none else σ.stat j := fun j => by
    rw [stat_cons]
    by_cases e : j = d
    · rw [if_pos e, if_pos e]
    · rw [if_neg e, if_neg e]
      exact stat_cons σ.slots σ.boxes σ.X k j none
  have hlater : Later σ.stat (⟨σ.slots, (d, some b') :: (k, none) :: σ.boxes, σ.X⟩ : St).stat ι (put1 ι d (ι k)) := by
    intro j hj
    have hne : j ≠ d := by rintro rfl; exact hj hd
    rw [hst, if_neg hne]
    by_cases e : j = k
    · rw [if_pos e]; exact ⟨by simp, fun b1 hb1 => by simp at hb1⟩
    · rw [if_neg e]; exact ⟨hj, fun b1 hb1 => ⟨by simp [put1, hne], b1, hb1⟩⟩
  obtain ⟨old, ofr, hold, hot, hos, _⟩ := h.boxes k b hk
  exact {
    defers := h.defers, size := h.size
    slots := fun x lv hx => by
      obtain ⟨v, hv, hr⟩ := h.slots x lv hx
      exact ⟨v, hv, LV.rel_later hlater hr⟩
    boxes := fun j b1 hb1 => by
      rw [hst] at hb1
      by_cases e : j = d
      · subst e
        simp only [if_true, Option.some.injEq] at hb1
        subst hb1
        refine ⟨arr, ofr, ?_, by rw [hs, ← hos]; exact hot, by simp only [put1, if_true]; exact hs, Box.rel_later hlater hb⟩
        simp only [put1, if_true]
        rw [he]
        exact setRow_heap w (ι k).1 old arr b.elem ofr hold
      · rw [if_neg e] at hb1
        by_cases e2 : j = k
        · rw [if_pos e2] at hb1; simp at hb1
        · rw [if_neg e2] at hb1
          obtain ⟨arr', fr', ha', ht', hs', hr'⟩ := h.boxes j b1 hb1
          refine ⟨arr', fr', ?_, ht', by simp only [put1, e, if_false]; exact hs', Box.rel_later hlater hr'⟩
          simp only [put1, e, if_false]
          rw [setRow_other w (ι k).1 (ι j).1 arr (fun e' => e2 (h.inj j k b1 b hb1 hk e'))]
          exact ha'
    own := fun j b1 hb1 => by
      rw [hst] at hb1
      by_cases e : j = d
      · subst e; simp only [put1, if_true]; exact h.own k b hk
      · rw [if_neg e] at hb1
        by_cases e2 : j = k
        · rw [if_pos e2] at hb1; simp at hb1
        · rw [if_neg e2] at hb1; simp only [put1, e, if_false]; exact h.own j b1 hb1
    inj := fun i j bi bj hi hj heq => by
      rw [hst] at hi hj
      by_cases ei : i = d
      · by_cases ej : j = d
        · rw [ei, ej]
        · rw [if_neg ej] at hj
          by_cases e2 : j = k
          · rw [if_pos e2] at hj; simp at hj
          · rw [if_neg e2] at hj
            simp only [put1, ei, if_true, ej, if_false] at heq
            exact absurd (h.inj k j b bj hk hj heq) (Ne.symm e2)
      · rw [if_neg ei] at hi
        by_cases e1 : i = k
        · rw [if_pos e1] at hi; simp at hi
        · rw [if_neg e1] at hi
          by_cases ej : j = d
          · simp only [put1, ej, if_true, ei, if_false] at heq
            exact absurd (h.inj i k bi b hi hk heq) e1
          · rw [if_neg ej] at hj
            by_cases e2 : j = k
            · rw [if_pos e2] at hj; simp at hj
            · rw [if_neg e2] at hj
              simp only [put1, ei, ej, if_false] at heq
              exact h.inj i j bi bj hi hj heq
    keep := fun j b1 hb1 hj => by
      rw [hst] at hb1
      have e : j ≠ d := by omega
      rw [if_neg e] at hb1
      by_cases e2 : j = k
      · rw [if_pos e2] at hb1; simp at hb1
      · rw [if_neg e2] at hb1
        simp only [put1, e, if_false]
        exact h.keep j b1 hb1 hj
    ext := fun j o hj => by
      rw [setRow_other w (ι k).1 j arr (fun e => by rw [e, (h.own k b hk).2] at hj; simp at hj)]
      exact h.ext j o hj
    frame := fun j hj hn => by
      rw [setRow_other w (ι k).1 j arr (fun e => by
        rcases (h.own k b hk).1 with ho | ho
        · exact hn (by rw [e]; exact ho)
        · omega)]
      exact h.frame j hj hn
    big := by simp; exact h.big
    os := h.os, tape := h.tape, output := h.output }
/-- nothing is known of a box any more -/
theorem Rel.kill (h : Rel n C ι σ a w) {k : Nat} (hk : ∃ x, σ.stat k = some x) : Rel n C ι ⟨σ.slots, (k, none) :: σ.boxes, σ.X⟩ a w := by
  have hst : ∀ j, (⟨σ.slots, (k, none) :: σ.boxes, σ.X⟩ : St).stat j = if j = k then some none else σ.stat j := fun j => stat_cons _ _ _ _ j _
  have live : ∀ j b, (⟨σ.slots, (k, none) :: σ.boxes, σ.X⟩ : St).stat j = some (some b) → σ.stat j = some (some b) := fun j b hb => by
    rw [hst] at hb
    by_cases e : j = k
    · rw [if_pos e] at hb; simp at hb
    · rw [if_neg e] at hb; exact hb
  have hlater : Later σ.stat (⟨σ.slots, (k, none) :: σ.boxes, σ.X⟩ : St).stat ι ι := by
    intro j hj
    rw [hst]
    by_cases e : j = k
    · rw [if_pos e]; exact ⟨by simp, fun b hb => by simp at hb⟩
    · rw [if_neg e]; exact ⟨hj, fun b hb => ⟨rfl, b, hb⟩⟩
  exact {
    defers := h.defers, size := h.size
    slots := fun x lv hx => by
      obtain ⟨v, hv, hr⟩ := h.slots x lv hx
      exact ⟨v, hv, LV.rel_later hlater hr⟩
    boxes := fun j b hb => by
      obtain ⟨arr, fr, h1, h2, h3, h4⟩ := h.boxes j b (live j b hb)
      exact ⟨arr, fr, h1, h2, h3, Box.rel_later hlater h4⟩
    own := fun j b hb => h.own j b (live j b hb)
    inj := fun i j bi bj hi hj => h.inj i j bi bj (live i bi hi) (live j bj hj)
    keep := fun j b hb => h.keep j b (live j b hb)
    ext := h.ext, frame := h.frame, big := h.big, os := h.os, tape := h.tape, output := h.output }
theorem setCells_row {g : Nat} {t : TypeId} {fr : Nat × Nat} : ∀ (vs : List Value) (off : Nat) (cur : Array Value) (w : World), w.heap[g]? = some (.cells cur t fr) → off + vs.length ≤ cur.size →
    w.setCells g off vs = w.setRow g (cur.toList.take off ++ vs ++ cur.toList.drop (off + vs.length)).toArray
  | [], off, cur, w, hg, hl => by
    simp only [World.setCells, List.append_nil, List.length_nil, Nat.add_zero, List.take_append_drop, Array.toArray_toList]
    have hlt : g < w.heap.size := (Array.getElem?_eq_some_iff.1 hg).1
    have hv : w.heap[g] = .cells cur t fr := (Array.getElem?_eq_some_iff.1 hg).2
    unfold World.setRow
    cases w with
    | mk heap tape drawn os output =>
      congr 1
      apply Array.ext
      · simp
      · intro k h1 h2
        simp only [Array.getElem_modify]
        split
        · rename_i hk; subst hk; simp at hv; simp [hv]
        · rfl
  | v :: rest, off, cur, w, hg, hl => by
    have hi : off < cur.size := by simp at hl; omega
    have ih := setCells_row rest (off + 1) (cur.setIfInBounds off v) (w.setRow g (cur.setIfInBounds off v)) (setRow_heap w g cur _ t fr hg) (by simp at hl ⊢; omega)
    rw [World.setCells, setCell_eq_setRow w g off cur t fr v hg, ih, setRow_setRow]
    congr 2
    apply List.ext_getElem?
    intro j
    simp only [Array.toList_setIfInBounds, List.getElem?_append, List.length_take, List.length_set, Array.length_toList, List.length_append, List.getElem?_take, List.getElem?_set, List.getElem?_drop, List.length_cons]
    simp at hl
    rcases Nat.lt_trichotomy j off with hj | hj | hj
    · simp [show j < off + 1 by omega, show min (off + 1) cur.size = off + 1 by omega, show min off cur.size = off by omega, show off ≠ j by omega, hj, show j < off + 1 + rest.length by omega, show j < off + (rest.length + 1) by omega]
    · subst hj
      simp [show min (j + 1) cur.size = j + 1 by omega, show min j cur.size = j by omega, hi, show j < j + 1 + rest.length by omega]
    · by_cases h2 : j < off + (rest.length + 1)
      · simp [show ¬ j < off + 1 by omega, show min (off + 1) cur.size = off + 1 by omega, show min off cur.size = off by omega, show ¬ j < off by omega, show j < off + 1 + rest.length by omega, h2, show j - off = (j - (off + 1)) + 1 by omega]
      · simp [show min (off + 1) cur.size = off + 1 by omega, show min off cur.size = off by omega, show ¬ j < off + 1 + rest.length by omega, h2, show off + 1 + rest.length + (j - (off + 1 + rest.length)) = off + (rest.length + 1) + (j - (off + (rest.length + 1))) by omega]
        intro hh
        exact absurd hh (by omega)
theorem append_core {σ' : St} (hr : Rel n C ι σ' a w) {t tx ty e : TypeId} {sz by_ : Nat} (hinf : slcInfo P t = some (e, sz, by_)) {xv yv : Value} {k d len m c : Nat} {cells l2 : List CV} {news : List Value} {row : Bool}
    (hv : xv = .slice (some ⟨(ι k).1, 0, none⟩) len c) (hle : len ≤ c) (hcs : 0 + c * sz ≤ (ι k).2) (hk : σ'.stat k = some (some ⟨e, cells, row⟩)) (hcl : cells.length = len * sz)
    (hsrc : Src P sz tx yv m news w) (hl2 : CVs.rel σ'.stat ι l2 news) (hd : σ'.stat d = none) (hlt : d < 1000000) (hfit : (len + m) * by_ ≤ 140737488355328) (h63 : len + m < 9223372036854775808) :
    ∃ v w' ι', (Builtin.append_ #[t, tx] ty #[xv, yv]).run P w = .ok v w' ∧ Rel n C ι' ⟨σ'.slots, (d, some ⟨e, cells ++ l2, true⟩) :: (k, none) :: σ'.boxes, σ'.X⟩ a w' ∧
      (CV.slc d 0 (len + m) sz).rel (⟨σ'.slots, (d, some ⟨e, cells ++ l2, true⟩) :: (k, none) :: σ'.boxes, σ'.X⟩ : St).stat ι' v := by
  obtain ⟨ie, z, hu, hi, hz, hsz, hby, hzs⟩ := slcInfo_spec hinf
  subst hv
  obtain ⟨arr, fr, harr, hthaw, hasz, hbr⟩ := hr.boxes k _ hk
  obtain ⟨us, sp, hus, hrel⟩ : ∃ us sp, arr.toList = us ++ sp ∧ CVs.rel σ'.stat ι cells us := by
    unfold Box.rel at hbr
    cases row with
    | false => exact ⟨arr.toList, [], by simp, hbr⟩
    | true => exact hbr
  have hul : us.length = len * sz := by rw [← CVs.rel_length hrel, hcl]
  have hnl : news.length = m * sz := hsrc.newsLen
  have hkd : k ≠ d := fun e => by rw [e, hd] at hk; cases hk
  have hstd : (⟨σ'.slots, (d, some ⟨e, cells ++ l2, true⟩) :: (k, none) :: σ'.boxes, σ'.X⟩ : St).stat d = some (some ⟨e, cells ++ l2, true⟩) := by rw [stat_cons, if_pos rfl]
  subst hsz hby
  have hasz' : arr.size = us.length + sp.length := by rw [← Array.length_toList, hus, List.length_append]
  by_cases hroom : len + m ≤ c
  · have hm : (len + m) * ie.size ≤ c * ie.size := Nat.mul_le_mul_right _ hroom
    rw [Nat.add_mul] at hm
    have hrun := run_append_room_src (P := P) w t tx ty e ie hu hi (ι k).1 0 len c yv m news hsrc hroom (fun j hj => by
        have hj2 : 0 + len * ie.size + j < arr.size := by omega
        simp [World.cell?, harr, Nat.zero_add] at hj2 ⊢
        omega) (fun j hj => by
        have h1 := hthaw (0 + len * ie.size + j) (by omega)
        obtain ⟨lo, hi'⟩ := fr
        simpa [World.frozen?, harr] using h1)
    rw [setCells_row news (0 + len * ie.size) arr w harr (by omega)] at hrun
    have htake : arr.toList.take (0 + len * ie.size) = us := by rw [hus, Nat.zero_add, ← hul, List.take_left]
    rw [htake] at hrun
    refine ⟨_, _, put1 ι d (ι k), hrun, ?_, ?_⟩
    · refine hr.move hlt hk hd rfl (b' := ⟨e, cells ++ l2, true⟩) ?_ ?_
      · simp; omega
      · simp only [Box.rel]
        exact ⟨us ++ news, _, rfl, CVs.rel_append hrel hl2⟩
    · simp only [CV.rel, hstd, put1, if_true]
      exact ⟨c, rfl, hroom, hcs⟩
  · have hne := growslice_fits (need := len + m) (old := c) (bytes := ie.bytes) (by omega) hfit
    have hold := run_firstCells_some (P := P) w.drew ie.size len ⟨(ι k).1, 0, none⟩ len c us hul (fun j v hj => by
      rw [addr_add]
      have hj2 : arr.toList[0 + j]? = some v := by
        rw [hus, Nat.zero_add, List.getElem?_append_left (List.getElem?_eq_some_iff.1 hj).1]
        exact hj
      have h4 : w.drew.heap[(ι k).1]? = some (.cells arr e fr) := harr
      simp only [World.cell?, h4, Option.isSome_none, Bool.false_eq_true, if_false]
      simpa using hj2)
    have hrun := run_append_grow_src (P := P) w t tx ty e ie z hu hi hz (some ⟨(ι k).1, 0, none⟩) len c us hold yv m news hsrc (by omega) (by omega) hne
    refine ⟨_, _, _, hrun, (hr.drew.kill ⟨_, hk⟩).new hlt ?_ (b := ⟨e, cells ++ l2, true⟩) (arr := (us ++ news).toArray ++ Builtin.zeroCells z.cells (grownCap w (len + m) c e - (len + m))) ?_, ?_⟩
    · rw [stat_cons, if_neg (Ne.symm hkd)]; exact hd
    · simp only [Box.rel]
      refine ⟨us ++ news, (Builtin.zeroCells z.cells (grownCap w (len + m) c e - (len + m))).toList, by simp, ?_⟩
      have hlater : Later σ'.stat (⟨σ'.slots, (k, none) :: σ'.boxes, σ'.X⟩ : St).stat ι ι := by
        intro j hj
        rw [stat_cons]
        by_cases e : j = k
        · rw [if_pos e]; exact ⟨by simp, fun b hb => by simp at hb⟩
        · rw [if_neg e]; exact ⟨hj, fun b hb => ⟨rfl, b, hb⟩⟩
      exact CVs.rel_later hlater (CVs.rel_append hrel hl2)
    · simp only [CV.rel, hstd, put1, if_true]
      have hge := grownCap_ge w (len + m) c e
      refine ⟨_, rfl, hge, ?_⟩
      have hzc : (Builtin.zeroCells z.cells (grownCap w (len + m) c e - (len + m))).size = (grownCap w (len + m) c e - (len + m)) * ie.size := by
        simp [Builtin.zeroCells, hzs]
      rw [Array.size_append, hzc]
      have h5 : grownCap w (len + m) c e = (grownCap w (len + m) c e - (len + m)) + (len + m) := by omega
      generalize grownCap w (len + m) c e - (len + m) = q at *
      rw [h5, Nat.add_mul, Nat.add_mul]
      simp
      omega
theorem bc_bytes {S : Nat → Option (Option Box)} {κ : Nat → Nat × Nat} (l : List UInt8) : CVs.rel S κ (l.map bc) (byteCells ⟨l.toArray⟩) := rel_bc l
theorem LOK.appendStr {d k len by_ : Nat} {t tx e : TypeId} {x y : Operand} {ty : TypeId} {pos : String} {after_ : Array Edge} {g : Option (Nat × Bool)} {cells : List CV} {row : Bool} {l : List UInt8}
    (hx : σ.ev x = some (.sv (.one (.slc k 0 len)))) (hk : σ.stat k = some (some ⟨e, cells, row⟩)) (hcl : cells.length = len) (hy : σ.ev y = some (.sv (.one (.val (.string ⟨l.toArray⟩))))) (hinf : slcInfo P t = some (e, 1, by_)) (htx : P.underlying tx = some .string)
    (hfit : (len + l.length) * by_ ≤ 140737488355328) (h63 : len + l.length < 9223372036854775808) (hd : σ.fresh d = true) :
    LOK P n ops ⟨some d, .call ⟨.builtin .append, #[x, y], #[t, tx]⟩, ty, pos, after_, g⟩ σ ⟨[(d, .sv (.one (.slc d 0 (len + l.length))))], [], [(d, some ⟨e, cells ++ l.map bc, true⟩), (k, none)]⟩ :=
  LOK.make fun σ' ha C ι a w hr => by
    have hk' : σ'.stat k = _ := (ha.stat k (.inr (by simp))).trans hk
    have hd' : σ'.stat d = none := (ha.stat d (.inr (by simp))).trans (St.fresh_none hd)
    have h1 := hr.ev ((ha.ev (x := x) (by simp [Op.operands, Call.operands])).trans hx)
    have h2 : a.eval y = .string ⟨l.toArray⟩ := hr.ev ((ha.ev (x := y) (by simp [Op.operands, Call.operands])).trans hy)
    simp only [LV.rel, SV.rel, CV.rel, hk'] at h1
    obtain ⟨c, h1, hle, hcs⟩ := h1
    obtain ⟨v, w', ι', hrun, hrel, hv⟩ := append_core (ty := ty) hr hinf (xv := a.eval x) (yv := .string ⟨l.toArray⟩) h1 hle hcs hk' (by rw [hcl, Nat.mul_one]) (Src.ofString w htx ⟨l.toArray⟩) (bc_bytes l) hd' (St.fresh_lt hd) hfit h63
    exact ⟨v, w', ι', by simp [execOp, resolve, invoke, builtin, h2, hrun], hrel, hv⟩
theorem K.appendStr {d k len by_ : Nat} {t tx e : TypeId} {x y : Operand} {ty : TypeId} {pos : String} {after_ : Array Edge} {g : Option (Nat × Bool)} {cells : List CV} {row : Bool} {l : List UInt8}
    (hx : (⟨s, bx, X⟩ : St).ev x = some (.sv (.one (.slc k 0 len)))) (hk : (⟨s, bx, X⟩ : St).stat k = some (some ⟨e, cells, row⟩)) (hcl : cells.length = len) (hy : (⟨s, bx, X⟩ : St).ev y = some (.sv (.one (.val (.string ⟨l.toArray⟩))))) (hinf : slcInfo P t = some (e, 1, by_)) (htx : P.underlying tx = some .string)
    (hfit : (len + l.length) * by_ ≤ 140737488355328) (h63 : len + l.length < 9223372036854775808) (hd : (⟨s, bx, X⟩ : St).fresh d = true) {nl : Nat} {nc : List CV} (hnl : len + l.length = nl) (hnc : cells ++ l.map bc = nc) (hw : Want ops s g)
    (kont : RunK P n ops os ⟨(d, .sv (.one (.slc d 0 nl))) :: s, (d, some ⟨e, nc, true⟩) :: (k, none) :: bx, X⟩ (⟨[(d, .sv (.one (.slc d 0 nl)))], [], [(d, some ⟨e, nc, true⟩), (k, none)]⟩ :: acc) K) :
    RunK P n ops (⟨some d, .call ⟨.builtin .append, #[x, y], #[t, tx]⟩, ty, pos, after_, g⟩ :: os) ⟨s, bx, X⟩ acc K := by
  subst hnl hnc
  exact RunK.gen hw (LOK.appendStr hx hk hcl hy hinf htx hfit h63 hd) kont
theorem LOK.appendSlc {d k k2 len m sz by_ : Nat} {t tx e e2 : TypeId} {x y : Operand} {ty : TypeId} {pos : String} {after_ : Array Edge} {g : Option (Nat × Bool)} {cells l2 : List CV} {row : Bool} {b2 : Box}
    (hx : σ.ev x = some (.sv (.one (.slc k 0 len sz)))) (hk : σ.stat k = some (some ⟨e, cells, row⟩)) (hcl : cells.length = len * sz) (hy : σ.ev y = some (.sv (.one (.slc k2 0 m sz)))) (hk2 : σ.stat k2 = some (some b2)) (hm2 : m * sz ≤ b2.cells.length) (hl2 : b2.cells.take (m * sz) = l2) (hso : l2.all CV.solid = true)
    (hinf : slcInfo P t = some (e, sz, by_)) (htx : P.underlying tx = some (.slice e2)) (hfit : (len + m) * by_ ≤ 140737488355328) (h63 : len + m < 9223372036854775808) (hd : σ.fresh d = true) :
    LOK P n ops ⟨some d, .call ⟨.builtin .append, #[x, y], #[t, tx]⟩, ty, pos, after_, g⟩ σ ⟨[(d, .sv (.one (.slc d 0 (len + m) sz)))], [k2], [(d, some ⟨e, cells ++ l2, true⟩), (k, none)]⟩ :=
  LOK.make fun σ' ha C ι a w hr => by
    have hk' : σ'.stat k = _ := (ha.stat k (.inr (by simp))).trans hk
    have hk2' : σ'.stat k2 = _ := (ha.stat k2 (.inl (by simp))).trans hk2
    have hd' : σ'.stat d = none := (ha.stat d (.inr (by simp))).trans (St.fresh_none hd)
    have h1 := hr.ev ((ha.ev (x := x) (by simp [Op.operands, Call.operands])).trans hx)
    have h2 := hr.ev ((ha.ev (x := y) (by simp [Op.operands, Call.operands])).trans hy)
    simp only [LV.rel, SV.rel, CV.rel, hk'] at h1
    simp only [LV.rel, SV.rel, CV.rel, hk2'] at h2
    obtain ⟨c, h1, hle, hcs⟩ := h1
    obtain ⟨c2, h2, -, -⟩ := h2
    obtain ⟨arr2, fr2, harr2, -, -, hbr2⟩ := hr.boxes k2 _ hk2'
    obtain ⟨hsz2, hpart⟩ := Box.rel_part hbr2 (off := 0) (m := m * sz) (by omega)
    rw [List.drop_zero, hl2, List.drop_zero] at hpart
    have hlen2 : (arr2.toList.take (m * sz)).length = m * sz := by simp at hsz2 ⊢; omega
    have hone : ∀ u ∈ arr2.toList.take (m * sz), u.oneCell' = true := (SV.cells_ok (s := .agg l2) (v := .agg (arr2.toList.take (m * sz)).toArray) ⟨_, rfl, by simpa using hpart⟩ hso).2 |> fun h u hu => h u (by simpa [Value.cells] using hu)
    have hsrc := Src.ofSlice (P := P) w (size := sz) htx ⟨(ι k2).1, 0, none⟩ m c2 (arr2.toList.take (m * sz)) hlen2 (fun j u hj => by
      rw [addr_add]
      simp only [World.cell?, harr2, Option.isSome_none, Bool.false_eq_true, if_false]
      rw [List.getElem?_take] at hj
      split at hj
      · simpa using hj
      · simp at hj) hone
    obtain ⟨v, w', ι', hrun, hrel, hv⟩ := append_core (ty := ty) hr hinf (xv := a.eval x) (yv := a.eval y) h1 hle hcs hk' hcl (by rw [h2]; exact hsrc) hpart hd' (St.fresh_lt hd) hfit h63
    exact ⟨v, w', ι', by simp [execOp, resolve, invoke, builtin, hrun], hrel, hv⟩
theorem K.appendSlc {d k k2 len m sz by_ : Nat} {t tx e e2 : TypeId} {x y : Operand} {ty : TypeId} {pos : String} {after_ : Array Edge} {g : Option (Nat × Bool)} {cells l2 : List CV} {row : Bool} {b2 : Box}
    (hx : (⟨s, bx, X⟩ : St).ev x = some (.sv (.one (.slc k 0 len sz)))) (hk : (⟨s, bx, X⟩ : St).stat k = some (some ⟨e, cells, row⟩)) (hcl : cells.length = len * sz) (hy : (⟨s, bx, X⟩ : St).ev y = some (.sv (.one (.slc k2 0 m sz)))) (hk2 : (⟨s, bx, X⟩ : St).stat k2 = some (some b2)) (hm2 : m * sz ≤ b2.cells.length) (hl2 : b2.cells.take (m * sz) = l2) (hso : l2.all CV.solid = true)
    (hinf : slcInfo P t = some (e, sz, by_)) (htx : P.underlying tx = some (.slice e2)) (hfit : (len + m) * by_ ≤ 140737488355328) (h63 : len + m < 9223372036854775808) (hd : (⟨s, bx, X⟩ : St).fresh d = true) {nl : Nat} {nc : List CV} (hnl : len + m = nl) (hnc : cells ++ l2 = nc) (hw : Want ops s g)
    (kont : RunK P n ops os ⟨(d, .sv (.one (.slc d 0 nl sz))) :: s, (d, some ⟨e, nc, true⟩) :: (k, none) :: bx, X⟩ (⟨[(d, .sv (.one (.slc d 0 nl sz)))], [k2], [(d, some ⟨e, nc, true⟩), (k, none)]⟩ :: acc) K) :
    RunK P n ops (⟨some d, .call ⟨.builtin .append, #[x, y], #[t, tx]⟩, ty, pos, after_, g⟩ :: os) ⟨s, bx, X⟩ acc K := by
  subst hnl hnc
  exact RunK.gen hw (LOK.appendSlc hx hk hcl hy hk2 hm2 hl2 hso hinf htx hfit h63 hd) kont
end
end Go.Lg
