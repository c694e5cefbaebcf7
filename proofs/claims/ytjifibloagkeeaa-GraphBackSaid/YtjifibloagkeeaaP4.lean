/- A piece of a proof over this program: contracts of its functions, and a logic to prove them by. -/
import Derived.Test.YtjifibloagkeeaaP2
import Derived.Test.YtjifibloagkeeaaP3
import Derived.StringKeys
import Derived.WideMake
import Derived.Test.YtjifibloagkeeaaRows
section
namespace Go.Lg
open Go Go.RowKit
def LeadsTo (H : Nat → Option Obj) (b : Nat) (v : Value) (el : TypeId) (sz : Nat) (vals : List Value) : Prop :=
  ∃ (len cap : Nat) (arr : Array Value) (fr : Nat × Nat), v = .slice (some ⟨b, 0, none⟩) len cap ∧ vals.length = len * sz ∧ len ≤ cap ∧ cap * sz ≤ arr.size ∧ H b = some (.cells arr el fr) ∧ ∃ sp, arr.toList = vals ++ sp
theorem LeadsTo.mono {H H' : Nat → Option Obj} {b : Nat} {v : Value} {el : TypeId} {sz : Nat} {vals : List Value} (h : LeadsTo H b v el sz vals) (he : H' b = H b) : LeadsTo H' b v el sz vals := by
  obtain ⟨len, cap, arr, fr, h1, h2, h3, h4, h5, h6⟩ := h
  exact ⟨len, cap, arr, fr, h1, h2, h3, h4, he.trans h5, h6⟩
theorem LeadsTo.cut {H : Nat → Option Obj} {b b' : Nat} {v : Value} {el : TypeId} {sz : Nat} {vals : List Value} (h : LeadsTo H b v el sz vals) (hne : b ≠ b') : LeadsTo (cutM H b') b v el sz vals := h.mono (cutM_other hne)
theorem LeadsTo.more {H : Nat → Option Obj} {b b' : Nat} {o : Obj} {v : Value} {el : TypeId} {sz : Nat} {vals : List Value} (h : LeadsTo H b v el sz vals) (hne : b ≠ b') : LeadsTo (withBlock H b' o) b v el sz vals := h.mono (by unfold withBlock; rw [if_neg hne])
theorem mid_inUse {bx : List (Nat × Option Box)} {l l' : List Value} {c : CV} (h : c.inUse bx = true) : (l.map CV.val ++ c :: l'.map CV.val).all (CV.inUse bx) = true := by
  rw [List.all_append, List.all_cons, vals_inUse, vals_inUse, h]; rfl
theorem Box.ren_mid {f : Nat → Nat} {e : TypeId} {l l' : List Value} {c c' : CV} {r : Bool} (h : c.ren f = c') : Box.ren f ⟨e, l.map CV.val ++ c :: l'.map CV.val, r⟩ = ⟨e, l.map CV.val ++ c' :: l'.map CV.val, r⟩ := by
  unfold Box.ren
  rw [List.map_append, List.map_cons, Go.Lg.ren_vals, Go.Lg.ren_vals, h]
theorem look_swap {α : Type} {k k' j : Nat} {x y : α} {l : List (Nat × α)} (h : Nat.beq k k' = false) : look j ((k, x) :: (k', y) :: l) = look j ((k', y) :: (k, x) :: l) := by
  simp only [look]
  cases h1 : Nat.beq k j with
  | false => rfl
  | true =>
    cases h2 : Nat.beq k' j with
    | false => rfl
    | true =>
      have := (Nat.eq_of_beq_eq_true h1).trans (Nat.eq_of_beq_eq_true h2).symm
      rw [this, Nat.beq_refl] at h; cases h
section
variable {P : Program} {n : Nat} {C : Ctx} {c : Code} {Q : Exit → St → Prop} {X H : Nat → Option Obj} {s : List (Nat × LV)} {bx : List (Nat × Option Box)}
theorem LWP.openCell {j k sz b len : Nat} {v : Value} {el el2 : TypeId} {A B : List CV} {row2 : Bool} {vals : List Value}
    (hO : OwnedM C X H) (hv : LeadsTo H b v el sz vals) (hlen : vals.length = len * sz) (hsz : 0 < sz)
    (hs : s.all (fun p => p.2.inUse ((j, some ⟨el2, A ++ .val v :: B, row2⟩) :: bx)) = true)
    (hb : ((j, some (⟨el2, A ++ .val v :: B, row2⟩ : Box)) :: bx).all (fun p => match p.2 with | some b => b.cells.all (CV.inUse ((j, some ⟨el2, A ++ .val v :: B, row2⟩) :: bx)) | none => true) = true)
    (hk : look k bx = none) (hjk : Nat.beq j k = false) (hlt : Nat.blt k 1000000 = true)
    (h : LWP P n C c Q ⟨s, (j, some ⟨el2, A ++ .slc k 0 len sz :: B, row2⟩) :: (k, some ⟨el, vals.map .val, true⟩) :: bx, joinM X (cutM H b)⟩) :
    LWP P n C c Q ⟨s, (j, some ⟨el2, A ++ .val v :: B, row2⟩) :: bx, joinM X H⟩ := by
  obtain ⟨len', cap, arr, fr, rfl, h2, h3, h4, h5, h6⟩ := hv
  have e : len' = len := Nat.eq_of_mul_eq_mul_right hsz (h2.symm.trans hlen)
  subst e
  rw [joinM_cut h5]
  have hX : joinM X (cutM H b) b = none := by rw [joinM_out (cutM_at H b)]; exact (hO.own _ _ h5).2.2
  exact LWP.thawCell hX (hO.frozen h5) h3 (by omega) h6 hs hb hk hjk hlt h
theorem closed {blk len cap sz : Nat} {arr : Array Value} {fr : Nat × Nat} {el : TypeId} {vals : List Value} (hlen : vals.length = len * sz) (hX : joinM X H blk = none) (hO : OwnedM C X H) (hF : Frozen C blk arr fr) (hc : len ≤ cap) (hfit : 0 + cap * sz ≤ arr.size) (hsp : ∃ sp, arr.toList = vals ++ sp) :
    H blk = none ∧ OwnedM C X (withBlock H blk (.cells arr el fr)) ∧ LeadsTo (withBlock H blk (.cells arr el fr)) blk (.slice (some ⟨blk, 0, none⟩) len cap) el sz vals :=
  ⟨(joinM_none hX).1, hO.more hF hX, ⟨len, cap, arr, fr, rfl, hlen, hc, by omega, withBlock_at _ _ _, hsp⟩⟩
theorem LWP.closeCell {j k len sz : Nat} {el el2 : TypeId} {A B : List CV} {row2 : Bool} {vals : List Value} {row : Bool} (hO : OwnedM C X H) (hlen : vals.length = len * sz)
    (hs : s.all (fun p => p.2.inUse ((j, none) :: bx)) = true) (hA : A.all (CV.inUse ((j, none) :: bx)) = true) (hB : B.all (CV.inUse ((j, none) :: bx)) = true) (hb : bx.all (fun p => match p.2 with | some b => b.cells.all (CV.inUse ((j, none) :: bx)) | none => true) = true) (hk : look k bx = none) (hjk : Nat.beq j k = false)
    (h : ∀ (b : Nat) (o : Obj) (v : Value), H b = none → X b = none → OwnedM C X (withBlock H b o) → LeadsTo (withBlock H b o) b v el sz vals →
      LWP P n C c Q ⟨s, (j, some ⟨el2, A ++ .val v :: B, row2⟩) :: bx, joinM X (withBlock H b o)⟩) :
    LWP P n C c Q ⟨s, (j, some ⟨el2, A ++ .slc k 0 len sz :: B, row2⟩) :: (k, some ⟨el, vals.map .val, row⟩) :: bx, joinM X H⟩ := by
  refine LWP.freezeCell hs hA hB hb hk hjk fun blk cap arr fr h1 h2 h3 h4 h5 => ?_
  rw [joinM_with]
  obtain ⟨g1, g2, g3⟩ := closed (el := el) hlen h1 hO h2 h3 h4 h5
  exact h blk _ _ g1 (joinM_none h1).2 g2 g3
theorem LWP.loopL {c : Code} {σ : St} (I : Nat → St → Prop) (m : Nat) (h0 : Leads n C (I m) σ)
    (round : ∀ m σ, I m σ → LWP P n C c (thenQ (Leads n C (fun σ' => ∃ m', m' < m ∧ I m' σ')) Q) σ) : LWP P n C (.loop c) Q σ := by
  refine ⟨fun ι a w hr => ?_⟩
  have key : ∀ (m : Nat) (σ : St) (ι : Nat → Nat × Nat) (a : Act) (w : World), I m σ → Rel n C ι σ a w → Code.rounds P c (fun e a' w' => ∃ ι' σ', Q e σ' ∧ Rel n C ι' σ' a' w') (m + 1) a w := by
    intro m
    induction m using Nat.strongRecOn with
    | _ m ih =>
      intro σ ι a w hI hr
      rw [rounds_succ]
      refine wp_mono ((round m σ hI).out ι a w hr) ?_
      rintro e a' w' ⟨ι', σ', hq, hr'⟩
      cases e <;> try exact ⟨ι', σ', hq, hr'⟩
      obtain ⟨ι2, σ2, ⟨m', hlt, hI'⟩, hr2⟩ := hq.out ι' a' w' hr'
      exact rounds_le (by omega) (ih m' hlt σ2 ι2 a' w' hI' hr2)
  obtain ⟨ι2, σ2, hI, hr2⟩ := h0.out ι a w hr
  exact wp_loop_rounds (m + 1) (key m σ2 ι2 a w hI hr2)
theorem rel_front {S : Nat → Option (Option Box)} {ι : Nat → Nat × Nat} : ∀ {A B : List CV} {vs : List Value}, CVs.rel S ι (A ++ B) vs → ∃ va vb, vs = va ++ vb ∧ CVs.rel S ι A va
  | [], _, vs, _ => ⟨[], vs, rfl, trivial⟩
  | _ :: _, _, [], h => h.elim
  | _ :: A, B, v :: vs, h => by
    obtain ⟨va, vb, e, h1⟩ := rel_front (A := A) (B := B) h.2
    exact ⟨v :: va, vb, by rw [e]; rfl, h.1, h1⟩
theorem Rel.rebox {ι : Nat → Nat × Nat} {a : Act} {w : World} {j : Nat} {e : TypeId} {cs cs' : List CV} {r r' : Bool}
    (himp : ∀ vs, Box.rel (⟨s, (j, some ⟨e, cs', r'⟩) :: bx, X⟩ : St).stat ι ⟨e, cs, r⟩ vs → Box.rel (⟨s, (j, some ⟨e, cs', r'⟩) :: bx, X⟩ : St).stat ι ⟨e, cs', r'⟩ vs)
    (hr : Rel n C ι ⟨s, (j, some ⟨e, cs, r⟩) :: bx, X⟩ a w) : Rel n C ι ⟨s, (j, some ⟨e, cs', r'⟩) :: bx, X⟩ a w := by
  have hlater := later_hd (s := s) (bx := bx) (k := j) ι ⟨e, cs, r⟩ ⟨e, cs', r'⟩ X X
  have live : ∀ i b, (⟨s, (j, some ⟨e, cs', r'⟩) :: bx, X⟩ : St).stat i = some (some b) → ∃ b0, (⟨s, (j, some ⟨e, cs, r⟩) :: bx, X⟩ : St).stat i = some (some b0) ∧ (i ≠ j → b = b0) := fun i b hi => by
    rw [stat_hd] at hi ⊢
    by_cases e : i = j
    · rw [if_pos e]; exact ⟨_, rfl, fun h => absurd e h⟩
    · rw [if_neg e] at hi ⊢; exact ⟨b, hi, fun _ => rfl⟩
  exact {
    defers := hr.defers, size := hr.size
    slots := fun d lv hd => by
      obtain ⟨v, hv, hvr⟩ := hr.slots d lv hd
      exact ⟨v, hv, LV.rel_later hlater hvr⟩
    boxes := fun i b hi hbk => by
      by_cases ei : i = j
      · subst ei
        rw [stat_hd, if_pos rfl] at hi
        simp only [Option.some.injEq] at hi
        subst hi
        obtain ⟨arr, fr, g1, g2, g3, g4⟩ := hr.boxes i ⟨e, cs, r⟩ (by rw [stat_hd, if_pos rfl]) rfl
        exact ⟨arr, fr, g1, g2, g3, himp _ (Box.rel_later hlater g4)⟩
      · obtain ⟨b0, h0, h1⟩ := live i b hi
        have := h1 ei
        subst this
        obtain ⟨arr, fr, g1, g2, g3, g4⟩ := hr.boxes i b h0 hbk
        exact ⟨arr, fr, g1, g2, g3, Box.rel_later hlater g4⟩
    own := fun i b hi => by obtain ⟨b0, h0, _⟩ := live i b hi; exact hr.own i b0 h0
    inj := fun i i' bi bj hi hj he => by
      obtain ⟨b1, h1, _⟩ := live i bi hi
      obtain ⟨b2, h2, _⟩ := live i' bj hj
      exact hr.inj i i' b1 b2 h1 h2 he
    keep := fun i b hi hge => by obtain ⟨b0, h0, _⟩ := live i b hi; exact hr.keep i b0 h0 hge
    ext := hr.ext
    res := by
      obtain ⟨F, hG⟩ := hr.res
      refine hG.keep (fun i e cs R hi => ?_) (fun _ _ _ _ _ hi => hi) (fun _ _ ho => ho) (fun b _ hx _ _ => hx) (fun i bi hi => ?_)
      · rw [stat_hd] at hi ⊢
        by_cases e : i = j
        · rw [if_pos e] at hi; cases hi
        · rw [if_neg e] at hi ⊢; exact ⟨hi, rfl⟩
      · obtain ⟨b0, h0, _⟩ := live i bi hi
        exact .inl ⟨b0, h0, rfl⟩
    frame := hr.frame, big := hr.big, os := hr.os, tape := hr.tape, output := hr.output }
theorem Le.trim {j : Nat} {e : TypeId} {A B : List CV} {r : Bool} : Le n C ⟨s, (j, some ⟨e, A ++ B, r⟩) :: bx, X⟩ ⟨s, (j, some ⟨e, A, true⟩) :: bx, X⟩ := ⟨fun ι a w hr => ⟨ι, hr.rebox fun vs h => by
  unfold Box.rel at h ⊢
  cases r with
  | false =>
    obtain ⟨va, vb, e, h1⟩ := rel_front h
    exact ⟨va, vb, e, h1⟩
  | true =>
    obtain ⟨us, sp, e, hl⟩ := h
    obtain ⟨va, vb, e2, h1⟩ := rel_front hl
    exact ⟨va, vb ++ sp, by rw [e, e2, List.append_assoc], h1⟩⟩⟩
theorem Le.same {σ σ' : St} (h : Same σ σ') : Le n C σ σ' := ⟨fun ι _ _ hr => ⟨ι, hr.same h⟩⟩
theorem Leads.done {Mid : St → Prop} {σ : St} (h : Mid σ) : Leads n C Mid σ := ⟨fun ι a w hr => ⟨ι, σ, h, hr⟩⟩
theorem Leads.closeCell {Mid : St → Prop} {j k len sz : Nat} {el el2 : TypeId} {A B : List CV} {row2 : Bool} {vals : List Value} {row : Bool} (hO : OwnedM C X H) (hlen : vals.length = len * sz)
    (hs : s.all (fun p => p.2.inUse ((j, none) :: bx)) = true) (hA : A.all (CV.inUse ((j, none) :: bx)) = true) (hB : B.all (CV.inUse ((j, none) :: bx)) = true) (hb : bx.all (fun p => match p.2 with | some b => b.cells.all (CV.inUse ((j, none) :: bx)) | none => true) = true) (hk : look k bx = none) (hjk : Nat.beq j k = false)
    (h : ∀ (b : Nat) (o : Obj) (v : Value), H b = none → X b = none → OwnedM C X (withBlock H b o) → LeadsTo (withBlock H b o) b v el sz vals →
      Leads n C Mid ⟨s, (j, some ⟨el2, A ++ .val v :: B, row2⟩) :: bx, joinM X (withBlock H b o)⟩) :
    Leads n C Mid ⟨s, (j, some ⟨el2, A ++ .slc k 0 len sz :: B, row2⟩) :: (k, some ⟨el, vals.map .val, row⟩) :: bx, joinM X H⟩ := by
  refine Leads.freezeCell hs hA hB hb hk hjk fun blk cap arr fr h1 h2 h3 h4 h5 => ?_
  rw [joinM_with]
  obtain ⟨g1, g2, g3⟩ := closed (el := el) hlen h1 hO h2 h3 h4 h5
  exact h blk _ _ g1 (joinM_none h1).2 g2 g3
end
end Go.Lg
end
section
namespace Go.Lg
open Go Go.RowKit
def nilSlc : Value := .slice none 0 0
def blkOf : Value → Option Nat
  | .slice (some a) _ _ => some a.block
  | _ => none
theorem LeadsTo.blk {H : Nat → Option Obj} {b : Nat} {v : Value} {el : TypeId} {sz : Nat} {vals : List Value} (h : LeadsTo H b v el sz vals) : blkOf v = some b := by
  obtain ⟨len, cap, arr, fr, rfl, _⟩ := h
  rfl
def SliceTo (H : Nat → Option Obj) (v : Value) (el : TypeId) (vals : List Value) : Prop := ∃ b, LeadsTo H b v el 1 vals
theorem SliceTo.mono {H H' : Nat → Option Obj} {v : Value} {el : TypeId} {vals : List Value} (h : SliceTo H v el vals) (he : ∀ b, blkOf v = some b → H' b = H b) : SliceTo H' v el vals := by
  obtain ⟨b, h⟩ := h
  exact ⟨b, h.mono (he b h.blk)⟩
theorem SliceTo.some_of {H : Nat → Option Obj} {v : Value} {el : TypeId} {vals : List Value} (h : SliceTo H v el vals) {b : Nat} (hb : blkOf v = some b) : H b ≠ Option.none := by
  obtain ⟨b', h⟩ := h
  have := h.blk
  rw [this] at hb
  simp only [Option.some.injEq] at hb
  subst hb
  obtain ⟨_, _, _, _, _, _, _, _, h5, _⟩ := h
  rw [h5]; simp
theorem cut_with {H : Nat → Option Obj} {b : Nat} {o : Obj} (h : H b = none) : cutM (withBlock H b o) b = H := by
  funext i
  unfold cutM withBlock
  by_cases e : i = b
  · rw [if_pos e, e, h]
  · rw [if_neg e, if_neg e]
structure Cells (H : Nat → Option Obj) (el : TypeId) (op : List Nat) (cells : List Value) (chs : List (List Value)) : Prop where
  len : cells.length = chs.length
  at_ : ∀ (i : Nat) (c : Value) (x : List Value), i ∉ op → cells[i]? = some c → chs[i]? = some x → SliceTo H c el x
  apart : ∀ (i j : Nat) (c c' : Value) (b : Nat), i ∉ op → j ∉ op → cells[i]? = some c → cells[j]? = some c' → blkOf c = some b → blkOf c' = some b → i = j
theorem Cells.nil (H : Nat → Option Obj) (el : TypeId) (op : List Nat) : Cells H el op [] [] := ⟨rfl, fun i c x _ h => (by simp at h), fun i j c c' b _ _ h => (by simp at h)⟩
section
variable {H : Nat → Option Obj} {el : TypeId} {op : List Nat} {cells : List Value} {chs : List (List Value)}
theorem Cells.some_of (G : Cells H el op cells chs) {i : Nat} {c : Value} {b : Nat} (hi : i ∉ op) (hc : cells[i]? = some c) (hb : blkOf c = some b) : H b ≠ none := by
  obtain ⟨x, hx⟩ : ∃ x, chs[i]? = some x := ⟨_, List.getElem?_eq_getElem (by have := (List.getElem?_eq_some_iff.1 hc).1; have := G.len; omega)⟩
  exact (G.at_ i c x hi hc hx).some_of hb
theorem Cells.mono {H' : Nat → Option Obj} (G : Cells H el op cells chs) (h : ∀ (i : Nat) (c : Value) (b : Nat), i ∉ op → cells[i]? = some c → blkOf c = some b → H' b = H b) : Cells H' el op cells chs :=
  ⟨G.len, fun i c x hi hc hx => (G.at_ i c x hi hc hx).mono fun b hb => h i c b hi hc hb, G.apart⟩
theorem Cells.more (G : Cells H el op cells chs) {b : Nat} {o : Obj} (hb : H b = none) : Cells (withBlock H b o) el op cells chs := G.mono fun i c b' hi hc hb' => by
  unfold withBlock
  rw [if_neg (fun e => G.some_of hi hc hb' (by rw [e, hb]))]
theorem Cells.shutAt {p : Nat} (G : Cells H el (p :: op) cells chs) (hp : p < cells.length) {b : Nat} {o : Obj} {v : Value} {x : List Value} (hb : H b = none) (hv : LeadsTo (withBlock H b o) b v el 1 x) : Cells (withBlock H b o) el op (cells.set p v) (chs.set p x) := by
  have hno : ∀ (i : Nat), i ∉ op → i ≠ p → i ∉ p :: op := fun i hi hne h => by
    rcases List.mem_cons.1 h with h | h
    · exact hne h
    · exact hi h
  refine ⟨by rw [List.length_set, List.length_set]; exact G.len, fun i c x' hi hc hx => ?_, fun i j c c' β hi hj hc hc' hβ hβ' => ?_⟩
  · by_cases e : i = p
    · subst e
      rw [List.getElem?_set_self hp] at hc
      rw [List.getElem?_set_self (by have := G.len; omega)] at hx
      simp only [Option.some.injEq] at hc hx
      subst hc hx
      exact ⟨b, hv⟩
    · rw [List.getElem?_set_ne (fun e' => e e'.symm)] at hc hx
      exact (G.more hb).at_ i c x' (hno i hi e) hc hx
  · by_cases e : i = p
    · by_cases e2 : j = p
      · omega
      · exfalso
        subst e
        rw [List.getElem?_set_self hp] at hc
        simp only [Option.some.injEq] at hc
        subst hc
        rw [List.getElem?_set_ne (fun e' => e2 e'.symm)] at hc'
        rw [hv.blk] at hβ
        simp only [Option.some.injEq] at hβ
        exact G.some_of (hno j hj e2) hc' hβ' (by rw [← hβ, hb])
    · by_cases e2 : j = p
      · exfalso
        subst e2
        rw [List.getElem?_set_self hp] at hc'
        simp only [Option.some.injEq] at hc'
        subst hc'
        rw [List.getElem?_set_ne (fun e' => e e'.symm)] at hc
        rw [hv.blk] at hβ'
        simp only [Option.some.injEq] at hβ'
        exact G.some_of (hno i hi e) hc hβ (by rw [← hβ', hb])
      · rw [List.getElem?_set_ne (fun e' => e e'.symm)] at hc
        rw [List.getElem?_set_ne (fun e' => e2 e'.symm)] at hc'
        exact G.apart i j c c' β (hno i hi e) (hno j hj e2) hc hc' hβ hβ'
theorem Cells.snoc (G : Cells H el op cells chs) (c : Value) (x : List Value) : Cells H el (cells.length :: op) (cells ++ [c]) (chs ++ [x]) := by
  have hlt : ∀ (i : Nat) (ci : Value), i ∉ cells.length :: op → (cells ++ [c])[i]? = some ci → i ∉ op ∧ i < cells.length ∧ cells[i]? = some ci := fun i ci hi hci => by
    have h1 := (List.getElem?_eq_some_iff.1 hci).1
    rw [List.length_append] at h1
    have h2 : i ≠ cells.length := fun e => hi (by rw [e]; exact List.mem_cons_self ..)
    have h3 : i < cells.length := by simp at h1; omega
    rw [List.getElem?_append_left h3] at hci
    exact ⟨fun h => hi (List.mem_cons_of_mem _ h), h3, hci⟩
  refine ⟨by rw [List.length_append, List.length_append, G.len]; rfl, fun i ci xi hi hci hxi => ?_, fun i j ci cj β hi hj hci hcj hβ hβ' => ?_⟩
  · obtain ⟨h1, h2, h3⟩ := hlt i ci hi hci
    rw [List.getElem?_append_left (by have := G.len; omega)] at hxi
    exact G.at_ i ci xi h1 h3 hxi
  · obtain ⟨h1, _, h3⟩ := hlt i ci hi hci
    obtain ⟨g1, _, g3⟩ := hlt j cj hj hcj
    exact G.apart i j ci cj β h1 g1 h3 g3 hβ hβ'
theorem Cells.take (G : Cells H el op cells chs) (k : Nat) : Cells H el op (cells.take k) (chs.take k) := by
  have hlt : ∀ (i : Nat) (ci : Value), (cells.take k)[i]? = some ci → cells[i]? = some ci := fun i ci h => by
    rw [List.getElem?_take] at h
    split at h
    · exact h
    · cases h
  refine ⟨by rw [List.length_take, List.length_take, G.len], fun i ci xi hi hci hxi => G.at_ i ci xi hi (hlt i ci hci) ?_, fun i j ci cj β hi hj hci hcj => G.apart i j ci cj β hi hj (hlt i ci hci) (hlt j cj hcj)⟩
  rw [List.getElem?_take] at hxi
  split at hxi
  · exact hxi
  · cases hxi
end
def Grid (H : Nat → Option Obj) (st el : TypeId) (v : Value) (cells : List Value) (chs : List (List Value)) : Prop :=
  (∃ db, LeadsTo H db v st 1 cells ∧ Cells (cutM H db) el [] cells chs) ∨ (v = nilSlc ∧ cells = [] ∧ chs = [])
theorem Grid.empty (H : Nat → Option Obj) (st el : TypeId) : Grid H st el nilSlc [] [] := .inr ⟨rfl, rfl, rfl⟩
theorem Grid.real {H : Nat → Option Obj} {st el : TypeId} {v : Value} {cells : List Value} {chs : List (List Value)} (G : Grid H st el v cells chs) (hne : chs ≠ []) : ∃ db, LeadsTo H db v st 1 cells ∧ Cells (cutM H db) el [] cells chs := G.resolve_right fun h => hne h.2.2
theorem Grid.len {H : Nat → Option Obj} {st el : TypeId} {v : Value} {cells : List Value} {chs : List (List Value)} (G : Grid H st el v cells chs) : cells.length = chs.length := by
  rcases G with ⟨_, _, G⟩ | ⟨_, h1, h2⟩
  · exact G.len
  · rw [h1, h2]; rfl
end Go.Lg
end
section
namespace Go.Lg
open Go Go.RowKit
section
variable {P : Program} {n : Nat} {ops os : List Oper} {acc : List Eff} {K : List Eff → St → Prop} {s : List (Nat × LV)} {bx : List (Nat × Option Box)} {X : Nat → Option Obj} {σ : St}
theorem run_equal_slcNil {P : Program} (w : World) (t : TypeId) (a : Option Addr) (l c sz : Nat) (h : sliceOf P t = some sz) : (Op.equal t (.slice a l c) (.slice none 0 0)).run P w = .ok a.isNone w := by
  obtain ⟨e, hu, _⟩ := sliceOf_spec h
  have key : ∀ d, (Op.equalIn (d + 1) t (.slice a l c) (.slice none 0 0)).run P w = .ok a.isNone w := fun d => by
    cases a <;> simp [Op.equalIn, run_underlying hu]
  exact key 9999
theorem LOK.slcNil {d : Nat} {op : BinOp} {t t' : TypeId} {x : Operand} {ty : TypeId} {pos : String} {after_ : Array Edge} {g : Option (Nat × Bool)} {r : Bool} {ad : Option Addr} {len cap sz : Nat} (hx : σ.ev x = some (.sv (.one (.val (.slice ad len cap))))) (ht : sliceOf P t = some sz)
    (hop : (op = .eql ∧ r = ad.isNone) ∨ (op = .neq ∧ r = !ad.isNone)) :
    LOK P n ops ⟨some d, .binOp op t x (.const (.slice none 0 0)) t', ty, pos, after_, g⟩ σ ⟨[(d, .sv (.one (.val (.bool r))))], [], []⟩ :=
  LOK.value fun σ' ha C ι a w hr => by
    have hv : a.eval x = .slice ad len cap := hr.ev ((ha.ev (x := x) (by simp [Op.operands])).trans hx)
    have hc : a.eval (.const (.slice none 0 0)) = .slice none 0 0 := rfl
    have h1 := run_equal_slcNil w t ad len cap sz ht
    rcases hop with ⟨rfl, rfl⟩ | ⟨rfl, rfl⟩
    · exact ⟨_, by simp only [execOp, hv, hc, eqGuard, Sem.run_bind]; simp [binOp, h1], rfl⟩
    · exact ⟨_, by simp only [execOp, hv, hc, eqGuard, Sem.run_bind]; simp [binOp, h1], rfl⟩
theorem K.slcNil {d : Nat} {op : BinOp} {t t' : TypeId} {x : Operand} {ty : TypeId} {pos : String} {after_ : Array Edge} {g : Option (Nat × Bool)} {r : Bool} {ad : Option Addr} {len cap sz : Nat} (hx : (⟨s, bx, X⟩ : St).ev x = some (.sv (.one (.val (.slice ad len cap))))) (ht : sliceOf P t = some sz)
    (hop : (op = .eql ∧ r = ad.isNone) ∨ (op = .neq ∧ r = !ad.isNone)) (hw : Want ops s g) (kont : RunK P n ops os ⟨(d, .sv (.one (.val (.bool r)))) :: s, bx, X⟩ (⟨[(d, .sv (.one (.val (.bool r))))], [], []⟩ :: acc) K) :
    RunK P n ops (⟨some d, .binOp op t x (.const (.slice none 0 0)) t', ty, pos, after_, g⟩ :: os) ⟨s, bx, X⟩ acc K := RunK.g1 (LOK.slcNil hx ht hop) hw kont
end
end Go.Lg
end
section
namespace Go.Lg
open Go Go.RowKit
def LentBox (Y : Nat → Option Obj) (b : Box) (blk m : Nat) : Prop :=
  match b.row with
  | .bool _ => ∃ (arr : Array Value) (fr : Nat × Nat) (us sp : List Value), Y blk = some (.cells arr b.elem fr) ∧ arr.size = m ∧ arr.toList = us ++ sp ∧ ∀ vals : List Value, b.cells = vals.map .val → us = vals
  | .res R => ∃ H : Nat → Option Obj, R.holds (blk, m) H ∧ ∀ i o, H i = some o → Y i = some o
def LentC (S : Nat → Option (Option Box)) (Y : Nat → Option Obj) : CV → Value → Prop
  | .val v, u => u = v
  | .slc k off len sz, u => ∃ (b : Box) (blk cap m : Nat), S k = some (some b) ∧ u = .slice (some ⟨blk, off, none⟩) len cap ∧ len ≤ cap ∧ off + cap * sz ≤ m ∧ LentBox Y b blk m
  | _, _ => False
def LentCs (S : Nat → Option (Option Box)) (Y : Nat → Option Obj) : List CV → List Value → Prop
  | [], us => us = []
  | c :: l, us => ∃ u us', us = u :: us' ∧ LentC S Y c u ∧ LentCs S Y l us'
def LentL (S : Nat → Option (Option Box)) (Y : Nat → Option Obj) (lv : LV) (u : Value) : Prop :=
  match lv with
  | .sv (.one c) => LentC S Y c u
  | .sv (.agg cs) => ∃ us : List Value, u = .agg us.toArray ∧ LentCs S Y cs us
  | _ => False
def LentLs (S : Nat → Option (Option Box)) (Y : Nat → Option Obj) : List LV → List Value → Prop
  | [], us => us = []
  | lv :: l, us => ∃ u us', us = u :: us' ∧ LentL S Y lv u ∧ LentLs S Y l us'
def lendC (S : Nat → Option (Option Box)) (ks : List Nat) : CV → Bool
  | .val _ => true
  | .slc k _ _ _ => ks.contains k && (match S k with | some (some _) => true | _ => false)
  | _ => false
def lendL (S : Nat → Option (Option Box)) (ks : List Nat) : LV → Bool
  | .sv (.one c) => lendC S ks c
  | .sv (.agg cs) => cs.all (lendC S ks)
  | _ => false
section
variable {P : Program} {n : Nat} {ops os : List Oper} {acc : List Eff} {K : List Eff → St → Prop} {s : List (Nat × LV)} {bx : List (Nat × Option Box)} {X : Nat → Option Obj} {σ : St}
theorem lentBox_of {C : Ctx} {ι : Nat → Nat × Nat} {a : Act} {w : World} {σ' : St} (hr : Rel n C ι σ' a w) {k : Nat} {b : Box} (hst : σ'.stat k = some (some b)) : LentBox (fun i => w.heap[i]?) b (ι k).1 (ι k).2 := by
  obtain ⟨e, cs, row⟩ := b
  cases row with
  | bool r =>
    obtain ⟨arr, fr, harr, _, hsz, hbr⟩ := hr.boxes k _ hst rfl
    unfold Box.rel at hbr
    cases r with
    | false => exact ⟨arr, fr, arr.toList, [], harr, hsz, by simp, fun vals e => by simp only at e hbr; rw [e] at hbr; exact rel_vals hbr⟩
    | true =>
      obtain ⟨us, sp, e, hl⟩ := hbr
      exact ⟨arr, fr, us, sp, harr, hsz, e, fun vals e => by simp only at e hl; rw [e] at hl; exact rel_vals hl⟩
  | res R =>
    obtain ⟨F, hF⟩ := hr.res
    exact ⟨F k, (hF.holds k _ _ _ hst).1, fun i o h => (hF.mem k i o h).2.1⟩
theorem lentC_of {C : Ctx} {ι : Nat → Nat × Nat} {a : Act} {w : World} {σ' : St} (hr : Rel n C ι σ' a w) (ks : List Nat) (S : Nat → Option (Option Box)) (hS : ∀ k, k ∈ ks → σ'.stat k = S k) {c : CV} {u : Value} (hl : lendC S ks c = true) (h : c.rel σ'.stat ι u) : LentC S (fun i => w.heap[i]?) c u := by
  cases c with
  | val v => exact h
  | slc k off len sz =>
    simp only [lendC, Bool.and_eq_true] at hl
    have hk : k ∈ ks := by simpa using hl.1
    cases hs : S k with
    | none => rw [hs] at hl; exact absurd hl.2 (by simp)
    | some x =>
      cases x with
      | none => rw [hs] at hl; exact absurd hl.2 (by simp)
      | some b =>
        have hst : σ'.stat k = some (some b) := by rw [hS k hk, hs]
        simp only [CV.rel, hst] at h
        obtain ⟨cap, rfl, h3, h4⟩ := h
        exact ⟨b, _, cap, _, hs, rfl, h3, h4, lentBox_of hr hst⟩
  | ptr _ _ => cases hl
  | mp _ => cases hl
  | fn _ _ _ => cases hl
  | hang _ _ _ => cases hl
  | junk => cases hl
theorem lentCs_of {C : Ctx} {ι : Nat → Nat × Nat} {a : Act} {w : World} {σ' : St} (hr : Rel n C ι σ' a w) (ks : List Nat) (S : Nat → Option (Option Box)) (hS : ∀ k, k ∈ ks → σ'.stat k = S k) : ∀ {cs : List CV} {us : List Value}, cs.all (lendC S ks) = true → CVs.rel σ'.stat ι cs us → LentCs S (fun i => w.heap[i]?) cs us
  | [], [], _, _ => rfl
  | [], _ :: _, _, h => h.elim
  | _ :: _, [], _, h => h.elim
  | c :: l, u :: us, hl, h => by
    simp only [List.all_cons, Bool.and_eq_true] at hl
    exact ⟨u, us, rfl, lentC_of hr ks S hS hl.1 h.1, lentCs_of hr ks S hS hl.2 h.2⟩
theorem lentLs_of {C : Ctx} {ι : Nat → Nat × Nat} {a : Act} {w : World} {σ' : St} (hr : Rel n C ι σ' a w) (ks : List Nat) (S : Nat → Option (Option Box)) (hS : ∀ k, k ∈ ks → σ'.stat k = S k) : ∀ {lvs : List LV} {us : List Value}, lvs.all (lendL S ks) = true → LVs.rel σ'.stat ι lvs us → LentLs S (fun i => w.heap[i]?) lvs us
  | [], [], _, _ => rfl
  | [], _ :: _, _, h => h.elim
  | _ :: _, [], _, h => h.elim
  | lv :: l, u :: us, hl, h => by
    simp only [List.all_cons, Bool.and_eq_true] at hl
    refine ⟨u, us, rfl, ?_, lentLs_of hr ks S hS hl.2 h.2⟩
    have h1 := h.1
    have h2 := hl.1
    match lv with
    | .sv (.one c) => exact lentC_of hr ks S hS h2 h1
    | .sv (.agg cs) =>
      obtain ⟨arr, rfl, hl'⟩ := h1
      exact ⟨arr.toList, by simp, lentCs_of hr ks S hS h2 hl'⟩
    | .tup _ => cases h2
theorem LOK.callL {d : Nat} {f : FuncId} {args : List Operand} {tys : Array TypeId} {ty : TypeId} {pos : String} {after_ : Array Edge} {g : Option (Nat × Bool)} {lvs : List LV} {r : LV} (ks : List Nat) (hargs : evs σ args = some lvs) (hl : lvs.all (lendL σ.stat ks) = true) (hent : Program.enters P f = true)
    (hs : ∀ (Y : Nat → Option Obj) (us : List Value), (∀ b o, σ.X b = some o → Y b = some o) → LentLs σ.stat Y lvs us → PSpec P Y f (us.map toLV) r) :
    LOK P n ops ⟨some d, .call ⟨.value (.func f), args.toArray, tys⟩, ty, pos, after_, g⟩ σ ⟨[(d, r)], ks, []⟩ := by
  refine ⟨fun σ' ha C ι a w hr hd next Q hn => ?_⟩
  have hargs' : evs σ' args = some lvs := by
    rw [evs_agree fun x hx => ha.ev (by simp [Op.operands, Call.operands, hx])]
    exact hargs
  have hrel := evs_rel hr hargs'
  have hlent := lentLs_of hr ks σ.stat (fun k hk => ha.stat k (.inl hk)) hl hrel
  have hc := (hs (fun b => w.heap[b]?) _ (fun b o hb => hr.ext b o (by rw [ha.X]; exact hb)) hlent).out w (args.toArray.map a.eval) (fun b o hb => hb) (by rw [Array.toList_map, List.toList_toArray]; exact args_rel _)
  unfold Oper.wp
  have hrun : (execOp a.eval ⟨some d, .call ⟨.value (.func f), args.toArray, tys⟩, ty, pos, after_, g⟩).run P w = .ok (.enter f (args.toArray.map a.eval)) w := by
    simp only [execOp, resolve, Act.eval, Deferred.ofValue, invoke, Sem.run_bind, Sem.run_pure, Result.andThen_ok]
    simp [run_enter hent]
  rw [hrun]
  refine hc.mono ?_
  rintro e w' ⟨v, rfl, hv, hb⟩
  exact hn ι _ w' ((hr.below hb).put (hd d rfl) (LV.rel_later (later_noS _ _ _) hv))
theorem K.callL {d : Nat} {f : FuncId} {args : List Operand} {tys : Array TypeId} {ty : TypeId} {pos : String} {after_ : Array Edge} {g : Option (Nat × Bool)} {lvs : List LV} {r : LV} (ks : List Nat) (hargs : evs ⟨s, bx, X⟩ args = some lvs) (hl : lvs.all (lendL (fun k => look k bx) ks) = true) (hent : Program.enters P f = true)
    (hs : ∀ (Y : Nat → Option Obj) (us : List Value), (∀ b o, X b = some o → Y b = some o) → LentLs (fun k => look k bx) Y lvs us → PSpec P Y f (us.map toLV) r) (hw : Want ops s g)
    (kont : RunK P n ops os ⟨(d, r) :: s, bx, X⟩ (⟨[(d, r)], ks, []⟩ :: acc) K) :
    RunK P n ops (⟨some d, .call ⟨.value (.func f), args.toArray, tys⟩, ty, pos, after_, g⟩ :: os) ⟨s, bx, X⟩ acc K := RunK.gen hw (LOK.callL ks hargs hl hent hs) kont
end
end Go.Lg
end
section
namespace Go.Lg
open Go Go.RowKit
def blkZ : Value → Option Nat
  | .slice (some a) (_ + 1) _ => some a.block
  | _ => none
theorem LeadsTo.blkZ {H : Nat → Option Obj} {b : Nat} {v : Value} {el : TypeId} {sz : Nat} {vals : List Value} (h : LeadsTo H b v el sz vals) (h0 : vals ≠ []) : Go.Lg.blkZ v = some b := by
  obtain ⟨len, cap, arr, fr, rfl, h2, _⟩ := h
  cases len with
  | zero => exact absurd (List.eq_nil_of_length_eq_zero (by omega)) h0
  | succ n => rfl
def SliceZ (H : Nat → Option Obj) (v : Value) (el : TypeId) (sz : Nat) (vals : List Value) : Prop := (vals = [] ∧ ∃ ad cap, v = .slice ad 0 cap) ∨ ∃ b, LeadsTo H b v el sz vals ∧ vals ≠ []
theorem SliceZ.mono {H H' : Nat → Option Obj} {v : Value} {el : TypeId} {sz : Nat} {vals : List Value} (h : SliceZ H v el sz vals) (he : ∀ b, blkZ v = some b → H' b = H b) : SliceZ H' v el sz vals := by
  rcases h with h | ⟨b, h, h0⟩
  · exact .inl h
  · exact .inr ⟨b, h.mono (he b (h.blkZ h0)), h0⟩
theorem SliceZ.some_of {H : Nat → Option Obj} {v : Value} {el : TypeId} {sz : Nat} {vals : List Value} (h : SliceZ H v el sz vals) {b : Nat} (hb : blkZ v = some b) : H b ≠ Option.none := by
  rcases h with ⟨_, ad, cap, rfl⟩ | ⟨b', h, h0⟩
  · simp [blkZ] at hb
  · have := h.blkZ h0
    rw [this] at hb
    simp only [Option.some.injEq] at hb
    subst hb
    obtain ⟨_, _, _, _, _, _, _, _, h5, _⟩ := h
    rw [h5]; simp
structure Twigs (H : Nat → Option Obj) (el : TypeId) (sz : Nat) (op : List Nat) (cells : List Value) (chs : List (List Value)) : Prop where
  len : cells.length = chs.length
  at_ : ∀ (i : Nat) (c : Value) (x : List Value), i ∉ op → cells[i]? = some c → chs[i]? = some x → SliceZ H c el sz x
  apart : ∀ (i j : Nat) (c c' : Value) (b : Nat), i ∉ op → j ∉ op → cells[i]? = some c → cells[j]? = some c' → blkZ c = some b → blkZ c' = some b → i = j
theorem Twigs.nil (H : Nat → Option Obj) (el : TypeId) (sz : Nat) (op : List Nat) : Twigs H el sz op [] [] := ⟨rfl, fun i c x _ h => (by simp at h), fun i j c c' b _ _ h => (by simp at h)⟩
section
variable {H : Nat → Option Obj} {el : TypeId} {sz : Nat} {op : List Nat} {cells : List Value} {chs : List (List Value)}
theorem Twigs.some_of (G : Twigs H el sz op cells chs) {i : Nat} {c : Value} {b : Nat} (hi : i ∉ op) (hc : cells[i]? = some c) (hb : blkZ c = some b) : H b ≠ none := by
  obtain ⟨x, hx⟩ : ∃ x, chs[i]? = some x := ⟨_, List.getElem?_eq_getElem (by have := (List.getElem?_eq_some_iff.1 hc).1; have := G.len; omega)⟩
  exact (G.at_ i c x hi hc hx).some_of hb
theorem Twigs.mono {H' : Nat → Option Obj} (G : Twigs H el sz op cells chs) (h : ∀ (i : Nat) (c : Value) (b : Nat), i ∉ op → cells[i]? = some c → blkZ c = some b → H' b = H b) : Twigs H' el sz op cells chs :=
  ⟨G.len, fun i c x hi hc hx => (G.at_ i c x hi hc hx).mono fun b hb => h i c b hi hc hb, G.apart⟩
theorem Twigs.more (G : Twigs H el sz op cells chs) {b : Nat} {o : Obj} (hb : H b = none) : Twigs (withBlock H b o) el sz op cells chs := G.mono fun i c b' hi hc hb' => by
  unfold withBlock
  rw [if_neg (fun e => G.some_of hi hc hb' (by rw [e, hb]))]
theorem Twigs.shutAt {p : Nat} (G : Twigs H el sz (p :: op) cells chs) (hp : p < cells.length) {b : Nat} {o : Obj} {v : Value} {x : List Value} (hb : H b = none) (hv : LeadsTo (withBlock H b o) b v el sz x) (hx0 : x ≠ []) : Twigs (withBlock H b o) el sz op (cells.set p v) (chs.set p x) := by
  have hno : ∀ (i : Nat), i ∉ op → i ≠ p → i ∉ p :: op := fun i hi hne h => by
    rcases List.mem_cons.1 h with h | h
    · exact hne h
    · exact hi h
  refine ⟨by rw [List.length_set, List.length_set]; exact G.len, fun i c x' hi hc hx => ?_, fun i j c c' β hi hj hc hc' hβ hβ' => ?_⟩
  · by_cases e : i = p
    · subst e
      rw [List.getElem?_set_self hp] at hc
      rw [List.getElem?_set_self (by have := G.len; omega)] at hx
      simp only [Option.some.injEq] at hc hx
      subst hc hx
      exact .inr ⟨b, hv, hx0⟩
    · rw [List.getElem?_set_ne (fun e' => e e'.symm)] at hc hx
      exact (G.more hb).at_ i c x' (hno i hi e) hc hx
  · by_cases e : i = p
    · by_cases e2 : j = p
      · omega
      · exfalso
        subst e
        rw [List.getElem?_set_self hp] at hc
        simp only [Option.some.injEq] at hc
        subst hc
        rw [List.getElem?_set_ne (fun e' => e2 e'.symm)] at hc'
        rw [hv.blkZ hx0] at hβ
        simp only [Option.some.injEq] at hβ
        exact G.some_of (hno j hj e2) hc' hβ' (by rw [← hβ, hb])
    · by_cases e2 : j = p
      · exfalso
        subst e2
        rw [List.getElem?_set_self hp] at hc'
        simp only [Option.some.injEq] at hc'
        subst hc'
        rw [List.getElem?_set_ne (fun e' => e e'.symm)] at hc
        rw [hv.blkZ hx0] at hβ'
        simp only [Option.some.injEq] at hβ'
        exact G.some_of (hno i hi e) hc hβ (by rw [← hβ', hb])
      · rw [List.getElem?_set_ne (fun e' => e e'.symm)] at hc
        rw [List.getElem?_set_ne (fun e' => e2 e'.symm)] at hc'
        exact G.apart i j c c' β (hno i hi e) (hno j hj e2) hc hc' hβ hβ'
theorem Twigs.snoc (G : Twigs H el sz op cells chs) (c : Value) (x : List Value) : Twigs H el sz (cells.length :: op) (cells ++ [c]) (chs ++ [x]) := by
  have hlt : ∀ (i : Nat) (ci : Value), i ∉ cells.length :: op → (cells ++ [c])[i]? = some ci → i ∉ op ∧ i < cells.length ∧ cells[i]? = some ci := fun i ci hi hci => by
    have h1 := (List.getElem?_eq_some_iff.1 hci).1
    rw [List.length_append] at h1
    have h2 : i ≠ cells.length := fun e => hi (by rw [e]; exact List.mem_cons_self ..)
    have h3 : i < cells.length := by simp at h1; omega
    rw [List.getElem?_append_left h3] at hci
    exact ⟨fun h => hi (List.mem_cons_of_mem _ h), h3, hci⟩
  refine ⟨by rw [List.length_append, List.length_append, G.len]; rfl, fun i ci xi hi hci hxi => ?_, fun i j ci cj β hi hj hci hcj hβ hβ' => ?_⟩
  · obtain ⟨h1, h2, h3⟩ := hlt i ci hi hci
    rw [List.getElem?_append_left (by have := G.len; omega)] at hxi
    exact G.at_ i ci xi h1 h3 hxi
  · obtain ⟨h1, _, h3⟩ := hlt i ci hi hci
    obtain ⟨g1, _, g3⟩ := hlt j cj hj hcj
    exact G.apart i j ci cj β h1 g1 h3 g3 hβ hβ'
theorem Twigs.take (G : Twigs H el sz op cells chs) (k : Nat) : Twigs H el sz op (cells.take k) (chs.take k) := by
  have hlt : ∀ (i : Nat) (ci : Value), (cells.take k)[i]? = some ci → cells[i]? = some ci := fun i ci h => by
    rw [List.getElem?_take] at h
    split at h
    · exact h
    · cases h
  refine ⟨by rw [List.length_take, List.length_take, G.len], fun i ci xi hi hci hxi => G.at_ i ci xi hi (hlt i ci hci) ?_, fun i j ci cj β hi hj hci hcj => G.apart i j ci cj β hi hj (hlt i ci hci) (hlt j cj hcj)⟩
  rw [List.getElem?_take] at hxi
  split at hxi
  · exact hxi
  · cases hxi
end
end Go.Lg
end
section
namespace Go.Lg.Fld
open Go Go.Lg
def rowsZ : List Cp → List Value → List Value
  | c :: cs, v :: vs => .int .i64 c.id :: .string ⟨c.nm.toArray⟩ :: v :: rowsZ cs vs
  | _, _ => []
theorem rowsZ_len : ∀ {cs : List Cp} {cells : List Value}, cells.length = cs.length → (rowsZ cs cells).length = cs.length * 3
  | [], [], _ => rfl
  | c :: cs, v :: vs, h => by
    simp only [rowsZ, List.length_cons] at h ⊢
    rw [rowsZ_len (cs := cs) (cells := vs) (by omega)]; omega
  | [], _ :: _, h => by simp at h
  | _ :: _, [], h => by simp at h
theorem rowsZ_split : ∀ {cs : List Cp} {cells : List Value} {i : Nat} {c : Cp} {v : Value}, cs[i]? = some c → cells[i]? = some v →
    rowsZ cs cells = rowsZ (cs.take i) (cells.take i) ++ .int .i64 c.id :: .string ⟨c.nm.toArray⟩ :: v :: rowsZ (cs.drop (i + 1)) (cells.drop (i + 1))
  | [], _, i, c, v, h, _ => by simp at h
  | _ :: _, [], i, c, v, _, h => by simp at h
  | a :: cs, u :: vs, 0, c, v, h1, h2 => by
    simp only [List.getElem?_cons_zero, Option.some.injEq] at h1 h2
    subst h1 h2
    rfl
  | a :: cs, u :: vs, i + 1, c, v, h1, h2 => by
    simp only [List.getElem?_cons_succ] at h1 h2
    simp only [rowsZ, List.take_succ_cons, List.drop_succ_cons, List.cons_append]
    rw [rowsZ_split h1 h2]
def flV (fs : List Fl) : List Value := (fs.map Fl.vals).flatten
theorem flV_len (fs : List Fl) : (flV fs).length = fs.length * 3 := by
  unfold flV
  induction fs with
  | nil => rfl
  | cons f t ih => rw [List.map_cons, List.flatten_cons, List.length_append, ih, List.length_cons]; simp [Fl.vals]; omega
theorem flV_at : ∀ {fs : List Fl} {k : Nat} {f : Fl}, fs[k]? = some f → k * 3 + 3 ≤ (flV fs).length ∧ ((flV fs).drop (k * 3)).take 3 = f.vals
  | [], k, f, h => by simp at h
  | a :: t, 0, f, h => by
    simp only [List.getElem?_cons_zero, Option.some.injEq] at h
    subst h
    refine ⟨by rw [flV_len, List.length_cons]; omega, ?_⟩
    unfold flV
    rw [Nat.zero_mul, List.drop_zero, List.map_cons, List.flatten_cons, List.take_append_of_le_length (by simp [Fl.vals])]
    rfl
  | a :: t, k + 1, f, h => by
    obtain ⟨h1, h2⟩ := flV_at (fs := t) (k := k) (f := f) (by simpa using h)
    refine ⟨by rw [flV_len] at h1 ⊢; simp; omega, ?_⟩
    rw [← h2]
    unfold flV
    rw [List.map_cons, List.flatten_cons, show (k + 1) * 3 = a.vals.length + k * 3 by simp [Fl.vals]; omega, List.drop_length_add_append]
theorem fields_block {Y : Nat → Option Obj} {blk : Nat} {arr : Array Value} {el : TypeId} {fr : Nat × Nat} {fs : List Fl} {sp : List Value} (hY : Y blk = some (.cells arr el fr)) (ha : arr.toList = flV fs ++ sp)
    (hs : ∀ f ∈ fs, (-9223372036854775808 ≤ f.kind ∧ f.kind < 9223372036854775808) ∧ (-9223372036854775808 ≤ f.count ∧ f.count < 9223372036854775808)) : FieldsIn Y (some ⟨blk, 0, none⟩) fs := by
  refine ⟨fun k r hr => ?_, hs⟩
  rw [List.getElem?_map] at hr
  cases hf : fs[k]? with
  | none => rw [hf] at hr; cases hr
  | some f =>
    rw [hf] at hr
    simp only [Option.map_some, Option.some.injEq] at hr
    subst hr
    obtain ⟨h1, h2⟩ := flV_at hf
    refine ⟨blk, 0, arr, el, fr, rfl, hY, ?_, ?_⟩
    · rw [← Array.length_toList, ha, List.length_append]; omega
    · rw [ha, Nat.zero_add, List.drop_append_of_le_length (by omega), List.take_append_of_le_length (by rw [List.length_drop]; omega)]; exact h2
def InB (cs : List Cp) : Prop := ∀ c ∈ cs, (-9223372036854775808 ≤ c.id ∧ c.id < 9223372036854775808) ∧ ∀ f ∈ c.fs, (-9223372036854775808 ≤ f.kind ∧ f.kind < 9223372036854775808) ∧ (-9223372036854775808 ≤ f.count ∧ f.count < 9223372036854775808)
theorem leaf_in {Y : Nat → Option Obj} {v : Value} {el : TypeId} {fs : List Fl} (h : SliceZ Y v el 3 (flV fs))
    (hs : ∀ f ∈ fs, (-9223372036854775808 ≤ f.kind ∧ f.kind < 9223372036854775808) ∧ (-9223372036854775808 ≤ f.count ∧ f.count < 9223372036854775808)) : ∃ fad fcap, v = .slice fad fs.length fcap ∧ FieldsIn Y fad fs := by
  rcases h with ⟨h0, ad, cap, rfl⟩ | ⟨b, ⟨len, cap, arr, fr, rfl, h2, h3, h4, h5, sp, h6⟩, h0⟩
  · have hl : fs.length = 0 := by have := flV_len fs; rw [h0, List.length_nil] at this; omega
    have e : fs = [] := List.eq_nil_of_length_eq_zero hl
    subst e
    exact ⟨ad, cap, rfl, fun k r hr => (by simp at hr), fun f hf => (by cases hf)⟩
  · rw [flV_len] at h2
    have e : fs.length = len := by omega
    subst e
    exact ⟨some ⟨b, 0, none⟩, cap, rfl, fields_block h5 h6 hs⟩
theorem comps_block {Y : Nat → Option Obj} {blk : Nat} {arr : Array Value} {el fel : TypeId} {fr : Nat × Nat} {cs : List Cp} {cells sp : List Value} (hY : Y blk = some (.cells arr el fr)) (ha : arr.toList = rowsZ cs cells ++ sp) (hl : cells.length = cs.length) (hb : InB cs)
    (hf : ∀ (i : Nat) (c : Cp) (v : Value), cs[i]? = some c → cells[i]? = some v → SliceZ Y v fel 3 (flV c.fs)) : CompsIn Y (some ⟨blk, 0, none⟩) cs := by
  refine ⟨fun i c hc => ?_, fun c hc => (hb c hc).1⟩
  have hi := (List.getElem?_eq_some_iff.1 hc).1
  obtain ⟨v, hv⟩ : ∃ v, cells[i]? = some v := ⟨_, List.getElem?_eq_getElem (by omega)⟩
  obtain ⟨fad, fcap, rfl, hF⟩ := leaf_in (hf i c v hc hv) (hb c (List.mem_of_getElem? hc)).2
  have hpre : (rowsZ (cs.take i) (cells.take i)).length = i * 3 := by rw [rowsZ_len (by rw [List.length_take, List.length_take, hl]), List.length_take, Nat.min_eq_left (by omega)]
  refine ⟨blk, 0, arr, el, fr, fad, fcap, rfl, hY, ?_, ?_, hF⟩
  · rw [← Array.length_toList, ha, List.length_append, rowsZ_len hl]; omega
  · rw [ha, rowsZ_split hc hv, Nat.zero_add, List.append_assoc, ← hpre, List.drop_left]; rfl
end Go.Lg.Fld
namespace Go.Proofs.Ytjifibloagkeeaa
open Go Go.Lg Go.Lg.Fld
set_option maxRecDepth 100000
def scR (cs : List Cp) : Rsc := ⟨fun ρ H => ∃ (arr : Array Value) (fr : Nat × Nat) (cells sp : List Value),
  H ρ.1 = some (.cells arr 54 fr) ∧ arr.size = ρ.2 ∧ arr.toList = rowsZ cs cells ++ sp ∧ Twigs (cutM H ρ.1) 94 3 [] cells (cs.map fun c => flV c.fs) ∧ InB cs⟩
abbrev scB (k : Nat) (cs : List Cp) : Nat × Option Box := (k, some ⟨0, [], .res (scR cs)⟩)
theorem scR_root (cs : List Cp) : ∀ ρ H, (scR cs).holds ρ H → ∃ vals el fr, H ρ.1 = some (.cells vals el fr) ∧ vals.size = ρ.2 := fun ρ H h => by
  obtain ⟨arr, fr, cells, sp, h1, h2, _⟩ := h
  exact ⟨arr, _, fr, h1, h2⟩
theorem scR_in {cs : List Cp} {blk m : Nat} {H Y : Nat → Option Obj} (h : (scR cs).holds (blk, m) H) (hY : ∀ b o, H b = some o → Y b = some o) : CompsIn Y (some ⟨blk, 0, none⟩) cs := by
  obtain ⟨arr, fr, cells, sp, h1, _, h3, G, hb⟩ := h
  have hl : cells.length = cs.length := by rw [G.len, List.length_map]
  refine comps_block (fel := 94) (hY _ _ h1) h3 hl hb fun i c v hc hv => ?_
  refine (G.at_ i v (flV c.fs) (by simp) hv (by rw [List.getElem?_map, hc]; rfl)).mono fun b hb' => ?_
  have hne := G.some_of (by simp) hv hb'
  cases hc2 : cutM H blk b with
  | none => exact absurd hc2 hne
  | some o => exact hY b o (cutM_some hc2).2
end Go.Proofs.Ytjifibloagkeeaa
end
section
namespace Go.Lg
open Go Go.RowKit
section
variable {P : Program} {n : Nat} {ops os : List Oper} {acc : List Eff} {K : List Eff → St → Prop} {s : List (Nat × LV)} {bx : List (Nat × Option Box)} {X : Nat → Option Obj} {σ : St}
end
end Go.Lg
end
section
namespace Go.Lg
open Go Go.RowKit
section
variable {P : Program} {n : Nat} {C : Ctx} {c : Code} {Q : Exit → St → Prop} {X H : Nat → Option Obj} {s : List (Nat × LV)} {bx : List (Nat × Option Box)}
theorem Rel.rebox2 {ι : Nat → Nat × Nat} {a : Act} {w : World} {j : Nat} {e : TypeId} {cs cs' : List CV} {r r' : Bool}
    (himp : ∀ vs, (∃ (arr : Array Value) (fr : Nat × Nat), w.heap[(ι j).1]? = some (.cells arr e fr) ∧ arr.toList = vs) → Box.rel (⟨s, (j, some ⟨e, cs', r'⟩) :: bx, X⟩ : St).stat ι ⟨e, cs, r⟩ vs → Box.rel (⟨s, (j, some ⟨e, cs', r'⟩) :: bx, X⟩ : St).stat ι ⟨e, cs', r'⟩ vs)
    (hr : Rel n C ι ⟨s, (j, some ⟨e, cs, r⟩) :: bx, X⟩ a w) : Rel n C ι ⟨s, (j, some ⟨e, cs', r'⟩) :: bx, X⟩ a w := by
  have hlater := later_hd (s := s) (bx := bx) (k := j) ι ⟨e, cs, r⟩ ⟨e, cs', r'⟩ X X
  have live : ∀ i b, (⟨s, (j, some ⟨e, cs', r'⟩) :: bx, X⟩ : St).stat i = some (some b) → ∃ b0, (⟨s, (j, some ⟨e, cs, r⟩) :: bx, X⟩ : St).stat i = some (some b0) ∧ (i ≠ j → b = b0) := fun i b hi => by
    rw [stat_hd] at hi ⊢
    by_cases e : i = j
    · rw [if_pos e]; exact ⟨_, rfl, fun h => absurd e h⟩
    · rw [if_neg e] at hi ⊢; exact ⟨b, hi, fun _ => rfl⟩
  exact {
    defers := hr.defers, size := hr.size
    slots := fun d lv hd => by
      obtain ⟨v, hv, hvr⟩ := hr.slots d lv hd
      exact ⟨v, hv, LV.rel_later hlater hvr⟩
    boxes := fun i b hi hbk => by
      by_cases ei : i = j
      · subst ei
        rw [stat_hd, if_pos rfl] at hi
        simp only [Option.some.injEq] at hi
        subst hi
        obtain ⟨arr, fr, g1, g2, g3, g4⟩ := hr.boxes i ⟨e, cs, r⟩ (by rw [stat_hd, if_pos rfl]) rfl
        exact ⟨arr, fr, g1, g2, g3, himp _ ⟨arr, fr, g1, rfl⟩ (Box.rel_later hlater g4)⟩
      · obtain ⟨b0, h0, h1⟩ := live i b hi
        have := h1 ei
        subst this
        obtain ⟨arr, fr, g1, g2, g3, g4⟩ := hr.boxes i b h0 hbk
        exact ⟨arr, fr, g1, g2, g3, Box.rel_later hlater g4⟩
    own := fun i b hi => by obtain ⟨b0, h0, _⟩ := live i b hi; exact hr.own i b0 h0
    inj := fun i i' bi bj hi hj he => by
      obtain ⟨b1, h1, _⟩ := live i bi hi
      obtain ⟨b2, h2, _⟩ := live i' bj hj
      exact hr.inj i i' b1 b2 h1 h2 he
    keep := fun i b hi hge => by obtain ⟨b0, h0, _⟩ := live i b hi; exact hr.keep i b0 h0 hge
    ext := hr.ext
    res := by
      obtain ⟨F, hG⟩ := hr.res
      refine hG.keep (fun i e cs R hi => ?_) (fun _ _ _ _ _ hi => hi) (fun _ _ ho => ho) (fun b _ hx _ _ => hx) (fun i bi hi => ?_)
      · rw [stat_hd] at hi ⊢
        by_cases e : i = j
        · rw [if_pos e] at hi; cases hi
        · rw [if_neg e] at hi ⊢; exact ⟨hi, rfl⟩
      · obtain ⟨b0, h0, _⟩ := live i bi hi
        exact .inl ⟨b0, h0, rfl⟩
    frame := hr.frame, big := hr.big, os := hr.os, tape := hr.tape, output := hr.output }
theorem Rel.spare {ι : Nat → Nat × Nat} {a : Act} {w : World} {j : Nat} {e : TypeId} {vals : List Value} (hr : Rel n C ι ⟨s, (j, some ⟨e, vals.map .val, true⟩) :: bx, X⟩ a w) : ∃ sp : List Value, Rel n C ι ⟨s, (j, some ⟨e, (vals ++ sp).map .val, false⟩) :: bx, X⟩ a w := by
  obtain ⟨arr, fr, g1, _, _, g4⟩ := hr.boxes j ⟨e, vals.map .val, true⟩ (by rw [stat_hd, if_pos rfl]) rfl
  obtain ⟨us, sp, e1, hl⟩ := g4
  have hu := rel_vals hl
  subst hu
  refine ⟨sp, hr.rebox2 fun vs hv _ => ?_⟩
  obtain ⟨arr', fr', h1, h2⟩ := hv
  rw [g1] at h1
  simp only [Option.some.injEq, Obj.cells.injEq] at h1
  obtain ⟨rfl, _⟩ := h1
  rw [← h2, e1]
  exact CVs.rel_map_val (us ++ sp)
theorem LWP.spare {j : Nat} {e : TypeId} {vals : List Value} (h : ∀ sp : List Value, LWP P n C c Q ⟨s, (j, some ⟨e, (vals ++ sp).map .val, false⟩) :: bx, X⟩) : LWP P n C c Q ⟨s, (j, some ⟨e, vals.map .val, true⟩) :: bx, X⟩ := ⟨fun ι a w hr => by
  obtain ⟨sp, hr'⟩ := hr.spare
  exact (h sp).out ι a w hr'⟩
theorem Leads.spare {Mid : St → Prop} {j : Nat} {e : TypeId} {vals : List Value} (h : ∀ sp : List Value, Leads n C Mid ⟨s, (j, some ⟨e, (vals ++ sp).map .val, false⟩) :: bx, X⟩) : Leads n C Mid ⟨s, (j, some ⟨e, vals.map .val, true⟩) :: bx, X⟩ := ⟨fun ι a w hr => by
  obtain ⟨sp, hr'⟩ := hr.spare
  exact (h sp).out ι a w hr'⟩
end
section
variable {H : Nat → Option Obj} {el : TypeId} {sz : Nat} {cells : List Value} {chs : List (List Value)}
theorem Twigs.push (G : Twigs H el sz [] cells chs) {b : Nat} {o : Obj} {v : Value} {x : List Value} (hb : H b = none) (hv : LeadsTo (withBlock H b o) b v el sz x) (hx : x ≠ []) : Twigs (withBlock H b o) el sz [] (cells ++ [v]) (chs ++ [x]) := by
  have G3 := (G.snoc nilSlc []).shutAt (by rw [List.length_append]; simp) hb hv hx
  have e1 : (cells ++ [nilSlc]).set cells.length v = cells ++ [v] := by rw [List.set_append_right _ _ (Nat.le_refl _), Nat.sub_self]; rfl
  have e2 : (chs ++ [([] : List Value)]).set cells.length x = chs ++ [x] := by rw [G.len, List.set_append_right _ _ (Nat.le_refl _), Nat.sub_self]; rfl
  rw [e1, e2] at G3
  exact G3
theorem Twigs.pushZ (G : Twigs H el sz [] cells chs) (ad : Option Addr) (cap : Nat) : Twigs H el sz [] (cells ++ [.slice ad 0 cap]) (chs ++ [[]]) := by
  have hsplit : ∀ (i : Nat) (c : Value), (cells ++ [.slice ad 0 cap])[i]? = some c → (i < cells.length ∧ cells[i]? = some c) ∨ (i = cells.length ∧ c = .slice ad 0 cap) := fun i c hc => by
    by_cases e : i < cells.length
    · rw [List.getElem?_append_left e] at hc; exact .inl ⟨e, hc⟩
    · have h1 := (List.getElem?_eq_some_iff.1 hc).1
      rw [List.length_append] at h1
      simp only [List.length_singleton] at h1
      have e2 : i = cells.length := by omega
      subst e2
      rw [List.getElem?_append_right (Nat.le_refl _), Nat.sub_self] at hc
      simp only [List.getElem?_cons_zero, Option.some.injEq] at hc
      exact .inr ⟨rfl, hc.symm⟩
  refine ⟨by rw [List.length_append, List.length_append, G.len]; rfl, fun i c x hi hc hx => ?_, fun i j c c' b hi hj hc hc' hb hb' => ?_⟩
  · rcases hsplit i c hc with ⟨h1, h2⟩ | ⟨rfl, rfl⟩
    · rw [List.getElem?_append_left (by have := G.len; omega)] at hx
      exact G.at_ i c x (by simp) h2 hx
    · rw [List.getElem?_append_right (by have := G.len; omega), G.len, Nat.sub_self] at hx
      simp only [List.getElem?_cons_zero, Option.some.injEq] at hx
      exact .inl ⟨hx.symm, ad, cap, rfl⟩
  · rcases hsplit i c hc with ⟨h1, h2⟩ | ⟨rfl, rfl⟩
    · rcases hsplit j c' hc' with ⟨g1, g2⟩ | ⟨rfl, rfl⟩
      · exact G.apart i j c c' b (by simp) (by simp) h2 g2 hb hb'
      · simp [blkZ] at hb'
    · simp [blkZ] at hb
end
end Go.Lg
end
section
namespace Go.Lg
open Go Go.RowKit
section
variable {n : Nat} {C : Ctx} {X Y : Nat → Option Obj} {s : List (Nat × LV)} {bx : List (Nat × Option Box)}
theorem Le.drop (hXY : ∀ b o, X b = some o → Y b = some o) : Le n C ⟨s, bx, Y⟩ ⟨s, bx, X⟩ := ⟨fun ι a w hr => ⟨ι, by
  have hn : ∀ b, Y b = none → X b = none := fun b hb => by
    cases hx : X b with
    | none => rfl
    | some o => rw [hXY b o hx] at hb; cases hb
  exact {
    defers := hr.defers, size := hr.size, slots := hr.slots, boxes := hr.boxes
    own := fun k b hk => ⟨(hr.own k b hk).1, hn _ (hr.own k b hk).2⟩
    inj := hr.inj, keep := hr.keep
    ext := fun b o hb => hr.ext b o (hXY b o hb)
    res := by
      obtain ⟨F, hF⟩ := hr.res
      exact ⟨F, hF.holds, fun k b o h => by
        obtain ⟨h1, h2, h3, h4, h5, h6⟩ := hF.mem k b o h
        exact ⟨h1, h2, h3, h4, hn _ h5, h6⟩, hF.apart⟩
    frame := hr.frame, big := hr.big, os := hr.os, tape := hr.tape, output := hr.output }⟩⟩
end
end Go.Lg
end
section
namespace Go.Lg
open Go Go.RowKit
section
variable {n : Nat} {C : Ctx} {σ : St} {ι : Nat → Nat × Nat} {a : Act} {w : World}
theorem Rel.resStep (hr : Rel n C ι σ a w) {k : Nat} {e : TypeId} {cs : List CV} {R : Rsc} (hk : σ.stat k = some (some ⟨e, cs, .res R⟩)) :
    ∃ H, R.holds (ι k) H ∧ (∀ b o, H b = some o → w.heap[b]? = some o) ∧ H (ι k).1 ≠ none ∧
      ∀ (w' : World) (H' : Nat → Option Obj) (R' : Rsc), (∀ b, H b = none → b < w.heap.size → w'.heap[b]? = w.heap[b]?) → (∀ b o, H' b = some o → w'.heap[b]? = some o ∧ Loose o) → (∀ b, H' b ≠ none → H b ≠ none) → H' (ι k).1 ≠ none → R'.holds (ι k) H' →
        w.heap.size ≤ w'.heap.size → w'.os = w.os → w'.tape = w.tape → w'.output = w.output → Rel n C ι ⟨σ.slots, (k, some ⟨0, [], .res R'⟩) :: σ.boxes, σ.X⟩ a w' := by
  obtain ⟨F, hF⟩ := hr.res
  refine ⟨F k, (hF.holds k _ _ _ hk).1, fun b o ho => (hF.mem k b o ho).2.1, (hF.holds k _ _ _ hk).2, fun w' H' R' hw hH' hsub hroot hR' hsz hos htp hou => ?_⟩
  have hst : ∀ j, (⟨σ.slots, (k, some ⟨0, [], .res R'⟩) :: σ.boxes, σ.X⟩ : St).stat j = if j = k then some (some ⟨0, [], .res R'⟩) else σ.stat j := fun j => stat_cons _ _ _ _ j _
  have live : ∀ j b, (⟨σ.slots, (k, some ⟨0, [], .res R'⟩) :: σ.boxes, σ.X⟩ : St).stat j = some (some b) → ∃ b0, σ.stat j = some (some b0) ∧ (j ≠ k → b = b0) := fun j b hj => by
    rw [hst] at hj
    by_cases e : j = k
    · exact ⟨_, by rw [e]; exact hk, fun h => absurd e h⟩
    · rw [if_neg e] at hj; exact ⟨b, hj, fun _ => rfl⟩
  have hlater : Later σ.stat (⟨σ.slots, (k, some ⟨0, [], .res R'⟩) :: σ.boxes, σ.X⟩ : St).stat ι ι := later_same ι fun j hj => by
    rw [hst]
    by_cases e : j = k
    · rw [if_pos e, e]; exact ⟨by simp, fun _ _ => ⟨_, hk⟩⟩
    · rw [if_neg e]; exact ⟨hj, fun b1 hb1 => ⟨b1, hb1⟩⟩
  have hout : ∀ b o, F k b = none → w.heap[b]? = some o → w'.heap[b]? = some o := fun b o h1 h2 => by rw [hw b h1 (Array.getElem?_eq_some_iff.1 h2).1]; exact h2
  have hnot : ∀ b, (∀ o, F k b = some o → False) → F k b = none := fun b h => by
    cases ho : F k b with
    | none => rfl
    | some o => exact (h o ho).elim
  exact {
    defers := hr.defers, size := hr.size
    slots := fun d lv hd => by
      obtain ⟨v, hv, hvr⟩ := hr.slots d lv hd
      exact ⟨v, hv, LV.rel_later hlater hvr⟩
    boxes := fun j b hj hbk => by
      by_cases ej : j = k
      · rw [hst, if_pos ej] at hj
        simp only [Option.some.injEq] at hj
        subst hj
        cases hbk
      · obtain ⟨b0, h0, h1⟩ := live j b hj
        have := h1 ej
        subst this
        obtain ⟨arr, fr, g1, g2, g3, g4⟩ := hr.boxes j b h0 hbk
        exact ⟨arr, fr, hout _ _ (hnot _ fun o ho => ej ((hF.mem k _ o ho).2.2.2.2.2 j b h0 rfl)) g1, g2, g3, Box.rel_later hlater g4⟩
    own := fun j b hj => by obtain ⟨b0, h0, _⟩ := live j b hj; exact hr.own j b0 h0
    inj := fun i j bi bj hi hj he => by
      obtain ⟨b1, h1, _⟩ := live i bi hi
      obtain ⟨b2, h2, _⟩ := live j bj hj
      exact hr.inj i j b1 b2 h1 h2 he
    keep := fun j b hj hge => by obtain ⟨b0, h0, _⟩ := live j b hj; exact hr.keep j b0 h0 hge
    ext := fun b o hb => hout b o (hnot _ fun o' ho => by
      have := (hF.mem k b o' ho).2.2.2.2.1
      have hb : σ.X b = some o := hb
      rw [hb] at this; cases this) (hr.ext b o hb)
    res := by
      refine ⟨fun j => open Classical in if j = k then H' else F j, fun j e' cs' R1 hj => ?_, fun j b o ho => ?_, fun i j b h1 h2 => ?_⟩
      · rw [hst] at hj
        by_cases ej : j = k
        · rw [if_pos ej] at hj
          cases hj
          rw [if_pos ej, ej]
          exact ⟨hR', hroot⟩
        · rw [if_neg ej] at hj
          rw [if_neg ej]
          exact hF.holds j e' cs' R1 hj
      · by_cases ej : j = k
        · rw [if_pos ej] at ho
          cases ho2 : F k b with
          | none => exact absurd ho2 (hsub b (by rw [ho]; simp))
          | some o2 =>
            obtain ⟨_, h2, _, h4, h5, h6⟩ := hF.mem k b o2 ho2
            refine ⟨⟨0, [], R', by rw [hst, if_pos ej]⟩, (hH' b o ho).1, (hH' b o ho).2, h4, h5, fun i bi hi ei => ?_⟩
            obtain ⟨b0, h0, _⟩ := live i bi hi
            rw [ej]; exact h6 i b0 h0 ei
        · rw [if_neg ej] at ho
          obtain ⟨⟨e1, cs1, R1, h1⟩, h2, h3, h4, h5, h6⟩ := hF.mem j b o ho
          refine ⟨⟨e1, cs1, R1, by rw [hst, if_neg ej]; exact h1⟩, hout b o (hnot _ fun o' ho' => ej (hF.apart j k b (by rw [ho]; simp) (by rw [ho']; simp))) h2, h3, h4, h5, fun i bi hi ei => ?_⟩
          obtain ⟨b0, h0, _⟩ := live i bi hi
          exact h6 i b0 h0 ei
      · by_cases ei : i = k
        · by_cases ej : j = k
          · rw [ei, ej]
          · rw [if_pos ei] at h1
            rw [if_neg ej] at h2
            rw [ei]; exact hF.apart k j b (hsub b h1) h2
        · by_cases ej : j = k
          · rw [if_neg ei] at h1
            rw [if_pos ej] at h2
            rw [ej]; exact hF.apart i k b h1 (hsub b h2)
          · rw [if_neg ei] at h1
            rw [if_neg ej] at h2
            exact hF.apart i j b h1 h2
    frame := fun b hb hn => by
      rw [← hr.frame b hb hn]
      refine hw b (hnot _ fun o ho => ?_) (Nat.lt_of_lt_of_le hb hr.big)
      rcases (hF.mem k b o ho).2.2.2.1 with h1 | h1
      · exact hn h1
      · omega
    big := Nat.le_trans hr.big hsz
    os := hos.trans hr.os, tape := htp.trans hr.tape, output := hou.trans hr.output }
theorem Rel.resNew (hr : Rel n C ι σ a w) {k m : Nat} {o : Obj} {R : Rsc} (hlt : k < 1000000) (hk : σ.stat k = none) (ho : Loose o) (hR : ∀ b, R.holds (b, m) (withBlock (fun _ => none) b o)) :
    Rel n C (put1 ι k (w.heap.size, m)) ⟨σ.slots, (k, some ⟨0, [], .res R⟩) :: σ.boxes, σ.X⟩ a (w.alloc o) := by
  obtain ⟨F, hF⟩ := hr.res
  have hst : ∀ j, (⟨σ.slots, (k, some ⟨0, [], .res R⟩) :: σ.boxes, σ.X⟩ : St).stat j = if j = k then some (some ⟨0, [], .res R⟩) else σ.stat j := fun j => stat_cons _ _ _ _ j _
  have hlater : Later σ.stat (⟨σ.slots, (k, some ⟨0, [], .res R⟩) :: σ.boxes, σ.X⟩ : St).stat ι (put1 ι k (w.heap.size, m)) := by
    intro j hj
    have hne : j ≠ k := by rintro rfl; exact hj hk
    rw [hst, if_neg hne]
    exact ⟨hj, fun b' hb' => ⟨by simp [put1, hne], b', hb'⟩⟩
  have hXlt : ∀ j o, σ.X j = some o → j < w.heap.size := fun j o hj => (Array.getElem?_eq_some_iff.1 (hr.ext j o hj)).1
  have hFlt : ∀ j b, F j b ≠ none → b < w.heap.size := fun j b hb => by
    cases h : F j b with
    | none => exact absurd h hb
    | some o => exact (Array.getElem?_eq_some_iff.1 (hF.mem j b o h).2.1).1
  have hnew : (w.alloc o).heap[w.heap.size]? = some o := heap_alloc_new w _
  exact {
    defers := hr.defers, size := hr.size
    slots := fun d lv hd => by
      obtain ⟨v, hv, hvr⟩ := hr.slots d lv hd
      exact ⟨v, hv, LV.rel_later hlater hvr⟩
    boxes := fun j b hj hbk => by
      rw [hst] at hj
      by_cases e : j = k
      · rw [if_pos e] at hj
        simp only [Option.some.injEq] at hj
        subst hj
        cases hbk
      · rw [if_neg e] at hj
        obtain ⟨arr, fr, g1, g2, g3, g4⟩ := hr.boxes j b hj hbk
        refine ⟨arr, fr, ?_, g2, by simp only [put1, e, if_false]; exact g3, Box.rel_later hlater g4⟩
        simp only [put1, e, if_false]
        rw [heap_alloc_lt (hr.blocklt hj)]
        exact g1
    own := fun j b hj => by
      rw [hst] at hj
      by_cases e : j = k
      · subst e
        simp only [put1, if_true]
        refine ⟨.inr hr.big, ?_⟩
        show σ.X w.heap.size = none
        cases hx : σ.X w.heap.size with
        | none => rfl
        | some o => exact absurd (hXlt _ o hx) (by omega)
      · rw [if_neg e] at hj
        simp only [put1, e, if_false]
        exact hr.own j b hj
    inj := fun i j bi bj hi hj heq => by
      rw [hst] at hi hj
      by_cases ei : i = k
      · by_cases ej : j = k
        · rw [ei, ej]
        · rw [if_neg ej] at hj
          have := hr.blocklt hj
          simp only [put1, ei, if_true, ej, if_false] at heq
          omega
      · rw [if_neg ei] at hi
        by_cases ej : j = k
        · have := hr.blocklt hi
          simp only [put1, ej, if_true, ei, if_false] at heq
          omega
        · rw [if_neg ej] at hj
          simp only [put1, ei, ej, if_false] at heq
          exact hr.inj i j bi bj hi hj heq
    keep := fun j b hj hge => by
      rw [hst] at hj
      have e : j ≠ k := by omega
      rw [if_neg e] at hj
      simp only [put1, e, if_false]
      exact hr.keep j b hj hge
    ext := fun j o hj => by rw [heap_alloc_lt (hXlt j o hj)]; exact hr.ext j o hj
    res := by
      refine ⟨fun j => open Classical in if j = k then withBlock (fun _ => none) w.heap.size o else F j, fun j e' cs' R1 hj => ?_, fun j b ob hob => ?_, fun i j b h1 h2 => ?_⟩
      · rw [hst] at hj
        by_cases ej : j = k
        · rw [if_pos ej] at hj
          cases hj
          rw [if_pos ej]
          simp only [put1, ej, if_true]
          exact ⟨hR _, by rw [withBlock_at]; simp⟩
        · rw [if_neg ej] at hj
          rw [if_neg ej]
          simp only [put1, ej, if_false]
          exact hF.holds j e' cs' R1 hj
      · by_cases ej : j = k
        · rw [if_pos ej] at hob
          unfold withBlock at hob
          split at hob
          · rename_i eb
            cases hob
            subst eb
            refine ⟨⟨0, [], R, by rw [hst, if_pos ej]⟩, hnew, ho, .inr hr.big, ?_, fun i bi hi ei => ?_⟩
            · cases hx : σ.X w.heap.size with
              | none => rfl
              | some o' => exact absurd (hXlt _ o' hx) (by omega)
            · rw [hst] at hi
              by_cases e : i = k
              · rw [e, ej]
              · rw [if_neg e] at hi
                simp only [put1, e, if_false] at ei
                have := hr.blocklt hi
                omega
          · cases hob
        · rw [if_neg ej] at hob
          obtain ⟨⟨e1, cs1, R1, h1⟩, h2, h3, h4, h5, h6⟩ := hF.mem j b ob hob
          have hlt := (Array.getElem?_eq_some_iff.1 h2).1
          refine ⟨⟨e1, cs1, R1, by rw [hst, if_neg ej]; exact h1⟩, by rw [heap_alloc_lt hlt]; exact h2, h3, h4, h5, fun i bi hi ei => ?_⟩
          rw [hst] at hi
          by_cases e : i = k
          · simp only [put1, e, if_true] at ei
            omega
          · rw [if_neg e] at hi
            simp only [put1, e, if_false] at ei
            exact h6 i bi hi ei
      · have hb : ∀ i, i ≠ k → F i b ≠ none → withBlock (fun _ => none) w.heap.size o b = none := fun i _ h => by
          have := hFlt i b h
          unfold withBlock
          rw [if_neg (by omega)]
        by_cases ei : i = k
        · by_cases ej : j = k
          · rw [ei, ej]
          · rw [if_pos ei] at h1
            rw [if_neg ej] at h2
            exact absurd (hb j ej h2) h1
        · by_cases ej : j = k
          · rw [if_neg ei] at h1
            rw [if_pos ej] at h2
            exact absurd (hb i ei h1) h2
          · rw [if_neg ei] at h1
            rw [if_neg ej] at h2
            exact hF.apart i j b h1 h2
    frame := fun j hj hn => by rw [heap_alloc_lt (Nat.lt_of_lt_of_le hj hr.big)]; exact hr.frame j hj hn
    big := by simp; exact Nat.le_succ_of_le hr.big
    os := hr.os, tape := hr.tape, output := hr.output }
end
structure KL (P : Program) (k : TypeId) : Prop where
  check : ∀ (w : World) (em : Bool) {v : Value} {l : Lit}, Go.keyOf P k v = some l → (Instr.checkKey em 10000 k v).run P w = .ok () w
  find : ∀ (w : World) {x : Value} {lx : Lit}, Go.keyOf P k x = some lx → ∀ es : List MapEntry, (∀ e ∈ es, ∃ l, Go.keyOf P k e.key = some l) →
    ((Instr.findKey k x es).run P w = .ok none w ∧ ∀ e ∈ es, e.key ≠ x) ∨ ∃ j e, (Instr.findKey k x es).run P w = .ok (some (j, e.val)) w ∧ es[j]? = some e ∧ e.key = x
  stays : ∀ (w : World) {v : Value} {l : Lit}, Go.keyOf P k v = some l → (Instr.keyThatStays v v).run P w = .ok v w
theorem KL.of {P : Program} {k : TypeId} (L : WideMaps.KeyLaw P k) : KL P k := ⟨L.check, L.find, L.stays⟩
theorem KL.str {P : Program} {k : TypeId} (h : P.underlying k = some .string) : KL P k := .of (WideMaps.string_law h)
theorem keyOf_int {P : Program} {k : TypeId} {q : IntKind} (hk : P.underlying k = some (.int q)) {v : Value} : Go.keyOf P k v = mapKey P k v := by unfold Go.keyOf; simp only [hk]
theorem int_of_keyOf {P : Program} {k : TypeId} {q : IntKind} (hk : P.underlying k = some (.int q)) {v : Value} {l : Lit} (h : Go.keyOf P k v = some l) : ∃ n, v = .int q n := by
  rw [keyOf_int hk] at h
  unfold mapKey at h
  cases v <;> simp [hk] at h
  rename_i q' n
  exact ⟨n, by rw [h.1.1]⟩
open Go.MapKept Go.WideShapes Go.WideMaps in
theorem KL.int {P : Program} {k : TypeId} {q : IntKind} (hk : P.underlying k = some (.int q)) : KL P k where
  check w em _ _ h := by
    obtain ⟨n, rfl⟩ := int_of_keyOf hk h
    exact run_checkKey hk (d := .int q) (k := .int q n) rfl em 9999
  find w _ _ hx es hes := by
    obtain ⟨n, rfl⟩ := int_of_keyOf hk hx
    have hks : ∀ x ∈ es, IsKey (.int q) x.key := fun x hxm => by
      obtain ⟨l, hl⟩ := hes x hxm
      obtain ⟨n', e⟩ := int_of_keyOf hk hl
      rw [e]
      exact rfl
    rcases findNow_spec (d := .int q) (k := .int q n) rfl es 0 hks with ⟨h1, h2⟩ | ⟨j, e0, h1, h2, h3⟩
    · exact Or.inl ⟨run_findKey hk h1, h2⟩
    · exact Or.inr ⟨j, e0, by simpa using run_findKey hk h1, h2, h3⟩
  stays w _ _ h := by
    obtain ⟨n, rfl⟩ := int_of_keyOf hk h
    exact run_keyThatStays (d := .int q) (k := .int q n) rfl
def mapR (P : Program) (kt : TypeId) (m : List (Value × Value)) : Rsc := ⟨fun ρ H => ∃ es clock, H = withBlock (fun _ => none) ρ.1 (.map es clock) ∧ es.toList.map (fun x : MapEntry => (x.key, x.val)) = m ∧ (m.map (·.1)).Nodup ∧ ∀ p ∈ m, ∃ l, Go.keyOf P kt p.1 = some l⟩
def At (m : List (Value × Value)) (key v z : Value) : Prop := (key, v) ∈ m ∨ ((∀ p ∈ m, p.1 ≠ key) ∧ v = z)
def Put (m : List (Value × Value)) (key v : Value) (m' : List (Value × Value)) : Prop := (∃ i old, m[i]? = some (key, old) ∧ m' = m.set i (key, v)) ∨ ((∀ p ∈ m, p.1 ≠ key) ∧ m' = m ++ [(key, v)])
theorem same_ix {m : List (Value × Value)} (hnd : (m.map (·.1)).Nodup) {i j : Nat} {key v u : Value} (hi : m[i]? = some (key, v)) (hj : m[j]? = some (key, u)) : i = j := by
  have hpi : (m.map (·.1))[i]? = some key := by rw [List.getElem?_map, hi]; rfl
  have hpj : (m.map (·.1))[j]? = some key := by rw [List.getElem?_map, hj]; rfl
  obtain ⟨hi, hie⟩ := List.getElem?_eq_some_iff.1 hpi
  obtain ⟨hjj, hje⟩ := List.getElem?_eq_some_iff.1 hpj
  have hp := List.pairwise_iff_getElem.1 hnd
  rcases Nat.lt_trichotomy i j with h | h | h
  · exact absurd (hie.trans hje.symm) (hp i j hi hjj h)
  · exact h
  · exact absurd (hje.trans hie.symm) (hp j i hjj hi h)
theorem same_at {m : List (Value × Value)} (hnd : (m.map (·.1)).Nodup) {i j : Nat} {key v u : Value} (hi : m[i]? = some (key, v)) (hj : m[j]? = some (key, u)) : v = u := by
  have e := same_ix hnd hi hj
  subst e
  rw [hi] at hj
  simp only [Option.some.injEq, Prod.mk.injEq] at hj
  exact hj.2
def mapOf (P : Program) (t : TypeId) : Option (TypeId × TypeId) := match P.underlying t with | some (.map k e) => some (k, e) | _ => none
theorem mapOf_spec {P : Program} {t k e : TypeId} (h : mapOf P t = some (k, e)) : P.underlying t = some (.map k e) := by
  unfold mapOf at h
  split at h
  · rename_i h1; cases h; exact h1
  · cases h
section
variable {P : Program} {n : Nat} {ops os : List Oper} {acc : List Eff} {K : List Eff → St → Prop} {s : List (Nat × LV)} {bx : List (Nat × Option Box)} {X : Nat → Option Obj} {σ : St}
theorem LOK.makeMap {d k : Nat} {t kt : TypeId} {ty : TypeId} {pos : String} {after_ : Array Edge} {g : Option (Nat × Bool)} (hk : σ.fresh k = true) :
    LOK P n ops ⟨some d, .makeMap t none, ty, pos, after_, g⟩ σ ⟨[(d, .sv (.one (.mp k)))], [], [(k, some ⟨0, [], .res (mapR P kt [])⟩)]⟩ :=
  LOK.make fun σ' ha C ι a w hr => by
    have hk' : σ'.stat k = none := (ha.stat k (.inr (by simp))).trans (St.fresh_none hk)
    have hlt := St.fresh_lt hk
    have hrun := run_makeMap_plain (P := P) (w := w) t
    refine ⟨.map (some w.heap.size), w.alloc (.map #[] 0), put1 ι k (w.heap.size, 0), ?_, ?_, ?_⟩
    · simp only [execOp, Option.map_none, Sem.run_bind, hrun, Result.andThen_ok, Sem.run_pure]
    · exact hr.resNew hlt hk' trivial fun b => ⟨#[], 0, rfl, rfl, List.nodup_nil, fun _ h => by cases h⟩
    · simp [LV.rel, SV.rel, CV.rel, stat_cons, put1]
theorem K.makeMap {d : Nat} {t : TypeId} (kt : TypeId) {ty : TypeId} {pos : String} {after_ : Array Edge} {g : Option (Nat × Bool)} (hk : (⟨s, bx, X⟩ : St).fresh d = true) (hw : Want ops s g)
    (kont : RunK P n ops os ⟨(d, .sv (.one (.mp d))) :: s, (d, some ⟨0, [], .res (mapR P kt [])⟩) :: bx, X⟩ (⟨[(d, .sv (.one (.mp d)))], [], [(d, some ⟨0, [], .res (mapR P kt [])⟩)]⟩ :: acc) K) :
    RunK P n ops (⟨some d, .makeMap t none, ty, pos, after_, g⟩ :: os) ⟨s, bx, X⟩ acc K := RunK.g2 (LOK.makeMap hk) hw kont
theorem LOK.lookup {d k : Nat} {t kt et : TypeId} {x y : Operand} {ty : TypeId} {pos : String} {after_ : Array Edge} {g : Option (Nat × Bool)} {m : List (Value × Value)} {e : TypeId} {cs : List CV} {key v z : Value} {l : Lit}
    (hx : σ.ev x = some (.sv (.one (.mp k)))) (hy : σ.ev y = some (.sv (.one (.val key)))) (hk : σ.stat k = some (some ⟨e, cs, .res (mapR P kt m)⟩)) (hm : mapOf P t = some (kt, et)) (L : KL P kt) (hkey : Go.keyOf P kt key = some l) (hz : (P.info? et).bind (·.zero) = some z) (hat : At m key v z) :
    LOK P n ops ⟨some d, .lookup t x y false, ty, pos, after_, g⟩ σ ⟨[(d, .sv (.one (.val v)))], [k], []⟩ :=
  LOK.value fun σ' ha C ι a w hr => by
    have hk' := (ha.stat k (.inl (by simp))).trans hk
    have hv := hr.ev ((ha.ev (x := x) (by simp [Op.operands])).trans hx)
    have hkv : a.eval y = key := hr.ev ((ha.ev (x := y) (by simp [Op.operands])).trans hy)
    simp only [LV.rel, SV.rel, CV.rel, hk'] at hv
    obtain ⟨H, ⟨es, clock, rfl, he, hnd, hkeys⟩, hH, _⟩ := hr.resStep hk'
    have hb := hH (ι k).1 _ (withBlock_at _ _ _)
    have ht := mapOf_spec hm
    have hzr : (zeroValue et).run P w = .ok z w := by
      cases hi : P.info? et with
      | none => rw [hi] at hz; cases hz
      | some i => rw [hi] at hz; have hz : i.zero = some z := hz; simp [zeroValue, typeInfo, hi, hz]
    have hall : ∀ x ∈ es.toList, ∃ l, Go.keyOf P kt x.key = some l := fun x hx => by
      refine hkeys (x.key, x.val) ?_
      rw [← he]
      exact List.mem_map.2 ⟨x, hx, rfl⟩
    have hrun : (Instr.lookup t (.map (some (ι k).1)) key false).run P w = .ok v w := by
      rcases L.find w hkey es.toList hall with ⟨h1, h2⟩ | ⟨j, e0, h1, h2, h3⟩
      · have hvz : v = z := by
          rcases hat with h4 | ⟨_, h4⟩
          · rw [← he] at h4
            obtain ⟨x, hx, hxe⟩ := List.mem_map.1 h4
            cases hxe
            exact absurd rfl (h2 x hx)
          · exact h4
        simp [Instr.lookup, run_underlying ht, MapKept.run_getObj_map hb, L.check w _ hkey, h1, hzr, Result.andThen, hvz]
      · have hmem : e0 ∈ es.toList := List.mem_of_getElem? h2
        have hv0 : e0.val = v := by
          rcases hat with h4 | ⟨h4, _⟩
          · obtain ⟨i, hi⟩ := List.getElem?_of_mem h4
            have hmj : m[j]? = some (key, e0.val) := by rw [← he, List.getElem?_map, h2, ← h3]; rfl
            exact (same_at hnd hmj hi)
          · refine absurd h3 (h4 (e0.key, e0.val) ?_)
            rw [← he]
            exact List.mem_map.2 ⟨e0, hmem, rfl⟩
        simp [Instr.lookup, run_underlying ht, MapKept.run_getObj_map hb, L.check w _ hkey, h1, Result.andThen, hv0]
    exact ⟨v, by simp only [execOp, hv, hkv, Sem.run_bind, hrun, Result.andThen_ok, Sem.run_pure], rfl⟩
theorem K.lookup {d k : Nat} {t kt et : TypeId} {x y : Operand} {ty : TypeId} {pos : String} {after_ : Array Edge} {g : Option (Nat × Bool)} {m : List (Value × Value)} {e : TypeId} {cs : List CV} {key v z : Value} {l : Lit}
    (hx : (⟨s, bx, X⟩ : St).ev x = some (.sv (.one (.mp k)))) (hy : (⟨s, bx, X⟩ : St).ev y = some (.sv (.one (.val key)))) (hk : (⟨s, bx, X⟩ : St).stat k = some (some ⟨e, cs, .res (mapR P kt m)⟩)) (hm : mapOf P t = some (kt, et)) (L : KL P kt) (hkey : Go.keyOf P kt key = some l) (hz : (P.info? et).bind (·.zero) = some z) (hat : At m key v z) (hw : Want ops s g)
    (kont : RunK P n ops os ⟨(d, .sv (.one (.val v))) :: s, bx, X⟩ (⟨[(d, .sv (.one (.val v)))], [k], []⟩ :: acc) K) :
    RunK P n ops (⟨some d, .lookup t x y false, ty, pos, after_, g⟩ :: os) ⟨s, bx, X⟩ acc K := RunK.g1 (LOK.lookup hx hy hk hm L hkey hz hat) hw kont
theorem LOK.mapUpdate {k : Nat} {t kt et : TypeId} {x y u : Operand} {ty : TypeId} {pos : String} {after_ : Array Edge} {g : Option (Nat × Bool)} {m m' : List (Value × Value)} {e : TypeId} {cs : List CV} {key v : Value} {l : Lit} {lv : LV}
    (hx : σ.ev x = some (.sv (.one (.mp k)))) (hy : σ.ev y = some (.sv (.one (.val key)))) (hu : σ.ev u = some lv) (hlv : ∀ (S : Nat → Option (Option Box)) (ι : Nat → Nat × Nat) (w : Value), lv.rel S ι w → w = v) (hk : σ.stat k = some (some ⟨e, cs, .res (mapR P kt m)⟩)) (hm : mapOf P t = some (kt, et)) (L : KL P kt) (hkey : Go.keyOf P kt key = some l) (hput : Put m key v m') :
    LOK P n ops ⟨none, .mapUpdate t x y u, ty, pos, after_, g⟩ σ ⟨[], [], [(k, some ⟨0, [], .res (mapR P kt m')⟩)]⟩ :=
  LOK.act fun σ' ha C ι a w hr => by
    have hk' := (ha.stat k (.inr (by simp))).trans hk
    have hv := hr.ev ((ha.ev (x := x) (by simp [Op.operands])).trans hx)
    have hkv : a.eval y = key := hr.ev ((ha.ev (x := y) (by simp [Op.operands])).trans hy)
    have huv : a.eval u = v := hlv _ _ _ (hr.ev ((ha.ev (x := u) (by simp [Op.operands])).trans hu))
    simp only [LV.rel, SV.rel, CV.rel, hk'] at hv
    obtain ⟨H, ⟨es, clock, hHe, he, hnd, hkeys⟩, hH, _, hstep⟩ := hr.resStep hk'
    have hb := hH (ι k).1 (.map es clock) (by rw [hHe]; exact withBlock_at _ _ _)
    have ht := mapOf_spec hm
    have hall : ∀ x ∈ es.toList, ∃ l, Go.keyOf P kt x.key = some l := fun x hx => by
      refine hkeys (x.key, x.val) ?_
      rw [← he]
      exact List.mem_map.2 ⟨x, hx, rfl⟩
    have hset := fun (o' : Obj) => MapKept.heap_set (o' := o') hb
    have hmain : ∃ es' clock', (Instr.mapUpdate t (.map (some (ι k).1)) key v).run P w = .ok () { w with heap := w.heap.setIfInBounds (ι k).1 (.map es' clock') } ∧ es'.toList.map (fun x : MapEntry => (x.key, x.val)) = m' ∧ (m'.map (·.1)).Nodup ∧ ∀ p ∈ m', ∃ l, Go.keyOf P kt p.1 = some l := by
      rcases L.find w hkey es.toList hall with ⟨h1, h2⟩ | ⟨j, e0, h1, h2, h3⟩
      · have hno : ∀ p ∈ m, p.1 ≠ key := fun p hp => by
          rw [← he] at hp
          obtain ⟨x, hx, rfl⟩ := List.mem_map.1 hp
          exact h2 x hx
        have hm' : m' = m ++ [(key, v)] := by
          rcases hput with ⟨i, old, h4, _⟩ | ⟨_, h4⟩
          · exact absurd rfl (hno _ (List.mem_of_getElem? h4))
          · exact h4
        refine ⟨es.push { key := key, val := v, born := clock }, clock + 1, ?_, by rw [hm', Array.toList_push, List.map_append, he]; rfl, ?_, ?_⟩
        · simp [Instr.mapUpdate, run_underlying ht, MapKept.run_getObj_map hb, L.check w _ hkey, h1, MapKept.run_setObj_map _ hb, Result.andThen]
        · rw [hm', List.map_append]
          refine List.nodup_append.2 ⟨hnd, by simp, fun x hx y hy e => ?_⟩
          obtain ⟨p, hp, rfl⟩ := List.mem_map.1 hx
          simp at hy
          rw [hy] at e
          exact hno p hp e
        · intro p hp
          rw [hm'] at hp
          rcases List.mem_append.1 hp with hp | hp
          · exact hkeys p hp
          · simp at hp; subst hp; exact ⟨l, hkey⟩
      · have hj : es[j]? = some e0 := by simpa using h2
        have hmj : m[j]? = some (key, e0.val) := by rw [← he, List.getElem?_map, h2, ← h3]; rfl
        have hm' : m' = m.set j (key, v) := by
          rcases hput with ⟨i, old, h4, h5⟩ | ⟨h4, _⟩
          · have hij : i = j := same_ix hnd h4 hmj
            rw [h5, hij]
          · exact absurd rfl (h4 _ (List.mem_of_getElem? hmj))
        refine ⟨es.modify j fun x => { x with key := key, val := v }, clock, ?_, ?_, ?_, ?_⟩
        · have hst := L.stays w hkey
          have hks : ((es[j]?).map (·.key)).getD key = key := by rw [hj]; exact h3
          simp [Instr.mapUpdate, run_underlying ht, MapKept.run_getObj_map hb, L.check w _ hkey, h1, hj, h3, hst, MapKept.run_setObj_map _ hb, Result.andThen]
        · rw [hm', ← he]
          apply List.ext_getElem?
          intro i
          rw [List.getElem?_map, Array.getElem?_toList, Array.getElem?_modify, List.getElem?_set, List.getElem?_map, Array.getElem?_toList]
          by_cases hij : j = i
          · subst hij
            simp [hj]
            have := (Array.getElem?_eq_some_iff.1 hj).1
            omega
          · simp [hij]
        · rw [hm', List.map_set]
          have : (m.map (·.1)).set j key = m.map (·.1) := by
            apply List.ext_getElem?
            intro i
            rw [List.getElem?_set]
            by_cases hij : j = i
            · subst hij
              rw [if_pos rfl, List.getElem?_map, hmj]
              have := (List.getElem?_eq_some_iff.1 hmj).1
              simp [this]
            · rw [if_neg hij]
          rw [this]; exact hnd
        · intro p hp
          rw [hm'] at hp
          rcases List.mem_or_eq_of_mem_set hp with hp | rfl
          · exact hkeys p hp
          · exact ⟨l, hkey⟩
    obtain ⟨es', clock', hrun, he', hnd', hkeys'⟩ := hmain
    refine ⟨{ w with heap := w.heap.setIfInBounds (ι k).1 (.map es' clock') }, ι, by simp only [execOp, hv, hkv, huv, Sem.run_bind, hrun, Result.andThen_ok, Sem.run_pure], ?_⟩
    refine hstep _ (withBlock (fun _ => none) (ι k).1 (.map es' clock')) _ (fun b hb2 _ => ?_) (fun b o ho => ?_) (fun b h => ?_) (by rw [withBlock_at]; simp) ⟨es', clock', rfl, he', hnd', hkeys'⟩ (by simp) rfl rfl rfl
    · refine (hset _).2 b fun e => ?_
      rw [hHe, e, withBlock_at] at hb2
      cases hb2
    · unfold withBlock at ho
      split at ho
      · rename_i e; cases ho; subst e
        exact ⟨(hset _).1, trivial⟩
      · cases ho
    · rw [hHe]
      unfold withBlock at h ⊢
      split
      · simp
      · rename_i hne; rw [if_neg hne] at h; exact h
theorem K.mapUpdate {k : Nat} {t kt et : TypeId} {x y u : Operand} {ty : TypeId} {pos : String} {after_ : Array Edge} {g : Option (Nat × Bool)} {m : List (Value × Value)} (m' : List (Value × Value)) {e : TypeId} {cs : List CV} {key v : Value} {l : Lit}
    (hx : (⟨s, bx, X⟩ : St).ev x = some (.sv (.one (.mp k)))) (hy : (⟨s, bx, X⟩ : St).ev y = some (.sv (.one (.val key)))) (hu : (⟨s, bx, X⟩ : St).ev u = some (.sv (.one (.val v)))) (hk : (⟨s, bx, X⟩ : St).stat k = some (some ⟨e, cs, .res (mapR P kt m)⟩)) (hm : mapOf P t = some (kt, et)) (L : KL P kt) (hkey : Go.keyOf P kt key = some l) (hput : Put m key v m') (hw : Want ops s g)
    (kont : RunK P n ops os ⟨s, (k, some ⟨0, [], .res (mapR P kt m')⟩) :: bx, X⟩ (⟨[], [], [(k, some ⟨0, [], .res (mapR P kt m')⟩)]⟩ :: acc) K) :
    RunK P n ops (⟨none, .mapUpdate t x y u, ty, pos, after_, g⟩ :: os) ⟨s, bx, X⟩ acc K := RunK.g3 (LOK.mapUpdate hx hy hu (fun _ _ _ h => h) hk hm L hkey hput) hw kont
end
end Go.Lg
end
section
namespace Go.Lg
open Go Go.RowKit
section
variable {P : Program} {n : Nat} {C : Ctx} {c : Code} {Q : Exit → St → Prop} {X : Nat → Option Obj}
theorem Rel.freezePtr {ι : Nat → Nat × Nat} {a : Act} {w : World} {s : List (Nat × LV)} {bx : List (Nat × Option Box)} {d k off : Nat} {el : TypeId} {vals : List Value} {row : Bool}
    (hs : s.all (fun p => p.2.inUse bx) = true) (hb : bx.all (fun p => match p.2 with | some b => b.cells.all (CV.inUse bx) | none => true) = true) (hk : look k bx = none)
    (hr : Rel n C ι ⟨(d, .sv (.one (.ptr k off))) :: s, (k, some ⟨el, vals.map .val, row⟩) :: bx, X⟩ a w) :
    ∃ (blk : Nat) (arr : Array Value) (fr : Nat × Nat), X blk = none ∧ Frozen C blk arr fr ∧ (∃ sp, arr.toList = vals ++ sp) ∧
      Rel n C ι ⟨(d, .sv (.one (.val (.pointer (some ⟨blk, off, none⟩))))) :: s, bx, withBlock X blk (.cells arr el fr)⟩ a w := by
  have hst : (⟨(d, .sv (.one (.ptr k off))) :: s, (k, some ⟨el, vals.map .val, row⟩) :: bx, X⟩ : St).stat k = some (some ⟨el, vals.map .val, row⟩) := by
    simp [St.stat, look]
  have hlk : ∀ k' x, look k' bx = some x → k' ≠ k := fun k' x h' e => by rw [e, hk] at h'; cases h'
  have hstb : ∀ k' x, look k' bx = some x → (⟨(d, .sv (.one (.ptr k off))) :: s, (k, some ⟨el, vals.map .val, row⟩) :: bx, X⟩ : St).stat k' = some x := fun k' x h' => by
    simp only [St.stat, look]
    cases e : Nat.beq k k' with
    | true => exact absurd (Nat.eq_of_beq_eq_true e).symm (hlk k' x h')
    | false => exact h'
  obtain ⟨arr, fr, harr, hth, hsz, hbr⟩ := hr.boxes k _ hst rfl
  obtain ⟨v, hv, hvr⟩ := hr.slots d (.sv (.one (.ptr k off))) (by simp [St.slot, look])
  simp only [LV.rel, SV.rel, CV.rel] at hvr
  rw [hst] at hvr
  subst hvr
  have hXn : X (ι k).1 = none := (hr.own k _ hst).2
  have hsp : ∃ sp, arr.toList = vals ++ sp := by
    unfold Box.rel at hbr
    cases hrow : row with
    | false =>
      rw [hrow] at hbr
      exact ⟨[], by rw [List.append_nil]; exact rel_vals hbr⟩
    | true =>
      rw [hrow] at hbr
      obtain ⟨us, sp, e, hl⟩ := hbr
      exact ⟨sp, by rw [e, rel_vals hl]⟩
  refine ⟨(ι k).1, arr, fr, hXn, ⟨(hr.own k _ hst).1, hth⟩, hsp, ?_⟩
  have hon : SameOn bx (⟨(d, .sv (.one (.ptr k off))) :: s, (k, some ⟨el, vals.map .val, row⟩) :: bx, X⟩ : St).stat (fun k => look k bx) := fun k' x h' => (hstb k' x h').trans h'.symm
  exact {
    defers := hr.defers, size := hr.size
    slots := fun d' lv hd => by
      simp only [St.slot, look] at hd
      cases e : Nat.beq d d' with
      | true =>
        rw [e] at hd
        simp at hd
        subst hd
        have := Nat.eq_of_beq_eq_true e
        subst this
        exact ⟨_, hv, rfl⟩
      | false =>
        rw [e] at hd
        have hd : look d' s = some lv := by simpa using hd
        obtain ⟨v', hv', hr'⟩ := hr.slots d' lv (by simp only [St.slot, look, e]; exact hd)
        exact ⟨v', hv', LV.rel_on hon (List.all_eq_true.1 hs _ (look_mem hd)) hr'⟩
    res := by
      obtain ⟨F, hF⟩ := hr.res
      refine hF.keep (fun j e cs R hj => ⟨hstb j _ hj, rfl⟩) (fun _ _ _ _ _ hj => hj) (fun _ _ ho => ho) (fun b _ hx hne _ => ?_) (fun j bj hj => .inl ⟨bj, hstb j _ hj, rfl⟩)
      show withBlock X (ι k).1 _ b = none
      unfold withBlock
      rw [if_neg (fun e => hne k _ hst rfl e.symm)]
      exact hx
    boxes := fun k' b hb' hbk => by
      have hb' : look k' bx = some (some b) := hb'
      obtain ⟨arr', fr', h1, h2, h3, h4⟩ := hr.boxes k' b (hstb k' _ hb') hbk
      exact ⟨arr', fr', h1, h2, h3, Box.rel_on hon (by simpa using List.all_eq_true.1 hb _ (look_mem hb')) h4⟩
    own := fun k' b hb' => by
      have hb' : look k' bx = some (some b) := hb'
      obtain ⟨h1, h2⟩ := hr.own k' b (hstb k' _ hb')
      refine ⟨h1, ?_⟩
      show withBlock X (ι k).1 _ (ι k').1 = none
      unfold withBlock
      rw [if_neg (fun e => hlk k' _ hb' (hr.inj k' k b _ (hstb k' _ hb') hst e))]
      exact h2
    inj := fun k1 k2 b1 b2 h1 h2 he => hr.inj k1 k2 b1 b2 (hstb k1 _ h1) (hstb k2 _ h2) he
    keep := fun k' b hb' hge => hr.keep k' b (hstb k' _ hb') hge
    ext := fun b o hbo => by
      have hbo : withBlock X (ι k).1 (.cells arr el fr) b = some o := hbo
      unfold withBlock at hbo
      by_cases e : b = (ι k).1
      · rw [if_pos e] at hbo
        rw [e, harr]; exact hbo
      · rw [if_neg e] at hbo
        exact hr.ext b o hbo
    frame := hr.frame, big := hr.big, os := hr.os, tape := hr.tape, output := hr.output }
theorem LWP.freezePtr {s : List (Nat × LV)} {bx : List (Nat × Option Box)} {d k off : Nat} {el : TypeId} {vals : List Value} {row : Bool}
    (hs : s.all (fun p => p.2.inUse bx) = true) (hb : bx.all (fun p => match p.2 with | some b => b.cells.all (CV.inUse bx) | none => true) = true) (hk : look k bx = none)
    (h : ∀ (blk : Nat) (arr : Array Value) (fr : Nat × Nat), X blk = none → Frozen C blk arr fr → (∃ sp, arr.toList = vals ++ sp) →
      LWP P n C c Q ⟨(d, .sv (.one (.val (.pointer (some ⟨blk, off, none⟩))))) :: s, bx, withBlock X blk (.cells arr el fr)⟩) :
    LWP P n C c Q ⟨(d, .sv (.one (.ptr k off))) :: s, (k, some ⟨el, vals.map .val, row⟩) :: bx, X⟩ := by
  refine ⟨fun ι a w hr => ?_⟩
  obtain ⟨blk, arr, fr, h1, h2, h5, h6⟩ := hr.freezePtr hs hb hk
  exact (h blk arr fr h1 h2 h5).out ι a w h6
end
section
variable {P : Program} {n : Nat} {ops os : List Oper} {acc : List Eff} {K : List Eff → St → Prop} {s : List (Nat × LV)} {bx : List (Nat × Option Box)} {X : Nat → Option Obj} {σ : St}
theorem LOK.makeFunc {d : Nat} {fn : Fn} {caps : List Operand} {us : List Value} {lvs : List LV} {ty : TypeId} {pos : String} {after_ : Array Edge} {g : Option (Nat × Bool)} (hc : evs σ caps = some lvs) (hu : plainLVs lvs = some us) :
    LOK P n ops ⟨some d, .makeFunc fn #[] caps.toArray, ty, pos, after_, g⟩ σ ⟨[(d, .sv (.one (.val (.func fn #[] us.toArray))))], [], []⟩ :=
  LOK.value fun σ' ha C ι a w hr => by
    have hc' : evs σ' caps = some lvs := by
      rw [evs_agree fun x hx => ha.ev (by simp [Op.operands, hx])]
      exact hc
    have e : caps.map a.eval = us := plainLVs_rel hu (evs_rel hr hc')
    exact ⟨.func fn #[] us.toArray, by rw [← e]; simp [execOp, Instr.makeFunc], rfl⟩
theorem K.makeFunc {d : Nat} {fn : Fn} {caps : List Operand} {us : List Value} {lvs : List LV} {ty : TypeId} {pos : String} {after_ : Array Edge} {g : Option (Nat × Bool)} (hc : evs ⟨s, bx, X⟩ caps = some lvs) (hu : plainLVs lvs = some us) (hw : Want ops s g)
    (kont : RunK P n ops os ⟨(d, .sv (.one (.val (.func fn #[] us.toArray)))) :: s, bx, X⟩ (⟨[(d, .sv (.one (.val (.func fn #[] us.toArray))))], [], []⟩ :: acc) K) :
    RunK P n ops (⟨some d, .makeFunc fn #[] caps.toArray, ty, pos, after_, g⟩ :: os) ⟨s, bx, X⟩ acc K := RunK.g1 (LOK.makeFunc hc hu) hw kont
theorem LOK.callF {d : Nat} {x : Operand} {f : FuncId} {caps : List Value} {args : List Operand} {tys : Array TypeId} {ty : TypeId} {pos : String} {after_ : Array Edge} {g : Option (Nat × Bool)} {lvs : List LV} {r : LV} (hx : σ.ev x = some (.sv (.one (.val (.func (.func f) #[] caps.toArray))))) (hargs : evs σ args = some lvs) (hcl : lvs.all LV.closed = true) (hs : PSpec P σ.X f (lvs ++ caps.map fun v => .sv (.one (.val v))) r) :
    LOK P n ops ⟨some d, .call ⟨.value x, args.toArray, tys⟩, ty, pos, after_, g⟩ σ ⟨[(d, r)], [], []⟩ := by
  refine ⟨fun σ' ha C ι a w hr hd next Q hn => ?_⟩
  have hargs' : evs σ' args = some lvs := by
    rw [evs_agree fun y hy => ha.ev (by simp [Op.operands, Call.operands, hy])]
    exact hargs
  have hv : a.eval x = .func (.func f) #[] caps.toArray := hr.ev ((ha.ev (x := x) (by simp [Op.operands, Call.operands])).trans hx)
  have hrel := LVs.rel_closed (S' := noS) (ι' := fun _ => (0, 0)) hcl (evs_rel hr hargs')
  have happ : ∀ {l : List LV} {us : List Value}, LVs.rel noS (fun _ => (0, 0)) l us → LVs.rel noS (fun _ => (0, 0)) (l ++ caps.map fun v => .sv (.one (.val v))) (us ++ caps) := fun {l} => by
    induction l with
    | nil =>
      intro us h
      cases us with
      | cons => exact h.elim
      | nil =>
        simp only [List.nil_append]
        have key : ∀ cs : List Value, LVs.rel noS (fun _ => (0, 0)) (cs.map fun v => LV.sv (.one (.val v))) cs := fun cs => by
          induction cs with
          | nil => trivial
          | cons c cs ih => exact ⟨rfl, ih⟩
        exact key caps
    | cons a l ih =>
      intro us h
      cases us with
      | nil => exact h.elim
      | cons u us => exact ⟨h.1, ih h.2⟩
  have hc := hs.out w (args.toArray.map a.eval ++ caps.toArray) (fun b o hb => hr.ext b o (by rw [ha.X]; exact hb)) (by simpa using happ hrel)
  unfold Oper.wp
  have hrun : (execOp a.eval ⟨some d, .call ⟨.value x, args.toArray, tys⟩, ty, pos, after_, g⟩).run P w = .ok (.enter f (args.toArray.map a.eval ++ caps.toArray)) w := by
    simp only [execOp, resolve, hv, Deferred.ofValue, invoke, Sem.run_bind, Sem.run_pure, Result.andThen_ok]
    simp [run_enter hs.enters]
  rw [hrun]
  refine hc.mono ?_
  rintro e w' ⟨v, rfl, hv, hb⟩
  exact hn ι _ w' ((hr.below hb).put (hd d rfl) (LV.rel_later (later_noS _ _ _) hv))
theorem K.callF {d : Nat} {x : Operand} {f : FuncId} {caps : List Value} {args : List Operand} {tys : Array TypeId} {ty : TypeId} {pos : String} {after_ : Array Edge} {g : Option (Nat × Bool)} {lvs : List LV} {r : LV} (hx : (⟨s, bx, X⟩ : St).ev x = some (.sv (.one (.val (.func (.func f) #[] caps.toArray))))) (hargs : evs ⟨s, bx, X⟩ args = some lvs) (hcl : lvs.all LV.closed = true) (hs : PSpec P X f (lvs ++ caps.map fun v => .sv (.one (.val v))) r) (hw : Want ops s g)
    (kont : RunK P n ops os ⟨(d, r) :: s, bx, X⟩ (⟨[(d, r)], [], []⟩ :: acc) K) :
    RunK P n ops (⟨some d, .call ⟨.value x, args.toArray, tys⟩, ty, pos, after_, g⟩ :: os) ⟨s, bx, X⟩ acc K := RunK.g1 (LOK.callF hx hargs hcl hs) hw kont
theorem LOK.lookupOk {d k : Nat} {t kt et : TypeId} {x y : Operand} {ty : TypeId} {pos : String} {after_ : Array Edge} {g : Option (Nat × Bool)} {m : List (Value × Value)} {e : TypeId} {cs : List CV} {key v z : Value} {l : Lit} {r : Bool} (sv : SV)
    (hx : σ.ev x = some (.sv (.one (.mp k)))) (hy : σ.ev y = some (.sv (.one (.val key)))) (hk : σ.stat k = some (some ⟨e, cs, .res (mapR P kt m)⟩)) (hm : mapOf P t = some (kt, et)) (L : KL P kt) (hkey : Go.keyOf P kt key = some l) (hz : (P.info? et).bind (·.zero) = some z) (hat : At m key v z) (hsv : ∀ (S : Nat → Option (Option Box)) (ι : Nat → Nat × Nat), sv.rel S ι v) (hr : r = true ↔ ∃ p ∈ m, p.1 = key) :
    LOK P n ops ⟨some d, .lookup t x y true, ty, pos, after_, g⟩ σ ⟨[(d, .tup [sv, .one (.val (.bool r))])], [k], []⟩ :=
  LOK.value fun σ' ha C ι a w hrl => by
    have hk' := (ha.stat k (.inl (by simp))).trans hk
    have hv := hrl.ev ((ha.ev (x := x) (by simp [Op.operands])).trans hx)
    have hkv : a.eval y = key := hrl.ev ((ha.ev (x := y) (by simp [Op.operands])).trans hy)
    simp only [LV.rel, SV.rel, CV.rel, hk'] at hv
    obtain ⟨H, ⟨es, clock, rfl, he, hnd, hkeys⟩, hH, _⟩ := hrl.resStep hk'
    have hb := hH (ι k).1 _ (withBlock_at _ _ _)
    have ht := mapOf_spec hm
    have hzr : (zeroValue et).run P w = .ok z w := by
      cases hi : P.info? et with
      | none => rw [hi] at hz; cases hz
      | some i => rw [hi] at hz; have hz : i.zero = some z := hz; simp [zeroValue, typeInfo, hi, hz]
    have hall : ∀ x ∈ es.toList, ∃ l, Go.keyOf P kt x.key = some l := fun x hx => by
      refine hkeys (x.key, x.val) ?_
      rw [← he]
      exact List.mem_map.2 ⟨x, hx, rfl⟩
    have hrun : (Instr.lookup t (.map (some (ι k).1)) key true).run P w = .ok (.tuple #[v, .bool r]) w := by
      rcases L.find w hkey es.toList hall with ⟨h1, h2⟩ | ⟨j, e0, h1, h2, h3⟩
      · have hvz : v = z := by
          rcases hat with h4 | ⟨_, h4⟩
          · rw [← he] at h4
            obtain ⟨x, hx, hxe⟩ := List.mem_map.1 h4
            cases hxe
            exact absurd rfl (h2 x hx)
          · exact h4
        have hr0 : r = false := by
          cases r with
          | false => rfl
          | true =>
            obtain ⟨p, hp, h5⟩ := hr.1 rfl
            rw [← he] at hp
            obtain ⟨x, hx, rfl⟩ := List.mem_map.1 hp
            exact absurd h5 (h2 x hx)
        simp [Instr.lookup, run_underlying ht, MapKept.run_getObj_map hb, L.check w _ hkey, h1, hzr, Result.andThen, hvz, hr0]
      · have hmem : e0 ∈ es.toList := List.mem_of_getElem? h2
        have hv0 : e0.val = v := by
          rcases hat with h4 | ⟨h4, _⟩
          · obtain ⟨i, hi⟩ := List.getElem?_of_mem h4
            have hmj : m[j]? = some (key, e0.val) := by rw [← he, List.getElem?_map, h2, ← h3]; rfl
            exact (same_at hnd hmj hi)
          · refine absurd h3 (h4 (e0.key, e0.val) ?_)
            rw [← he]
            exact List.mem_map.2 ⟨e0, hmem, rfl⟩
        have hr1 : r = true := by
          refine hr.2 ⟨(e0.key, e0.val), ?_, h3⟩
          rw [← he]
          exact List.mem_map.2 ⟨e0, hmem, rfl⟩
        simp [Instr.lookup, run_underlying ht, MapKept.run_getObj_map hb, L.check w _ hkey, h1, Result.andThen, hv0, hr1]
    exact ⟨.tuple #[v, .bool r], by simp only [execOp, hv, hkv, Sem.run_bind, hrun, Result.andThen_ok, Sem.run_pure], ⟨_, rfl, hsv _ _, rfl, trivial⟩⟩
theorem K.lookupOk {d k : Nat} {t kt et : TypeId} {x y : Operand} {ty : TypeId} {pos : String} {after_ : Array Edge} {g : Option (Nat × Bool)} {m : List (Value × Value)} {e : TypeId} {cs : List CV} {key v z : Value} {l : Lit} {r : Bool} (sv : SV)
    (hx : (⟨s, bx, X⟩ : St).ev x = some (.sv (.one (.mp k)))) (hy : (⟨s, bx, X⟩ : St).ev y = some (.sv (.one (.val key)))) (hk : (⟨s, bx, X⟩ : St).stat k = some (some ⟨e, cs, .res (mapR P kt m)⟩)) (hm : mapOf P t = some (kt, et)) (L : KL P kt) (hkey : Go.keyOf P kt key = some l) (hz : (P.info? et).bind (·.zero) = some z) (hat : At m key v z) (hsv : ∀ (S : Nat → Option (Option Box)) (ι : Nat → Nat × Nat), sv.rel S ι v) (hr : r = true ↔ ∃ p ∈ m, p.1 = key) (hw : Want ops s g)
    (kont : RunK P n ops os ⟨(d, .tup [sv, .one (.val (.bool r))]) :: s, bx, X⟩ (⟨[(d, .tup [sv, .one (.val (.bool r))])], [k], []⟩ :: acc) K) :
    RunK P n ops (⟨some d, .lookup t x y true, ty, pos, after_, g⟩ :: os) ⟨s, bx, X⟩ acc K := RunK.g1 (LOK.lookupOk sv hx hy hk hm L hkey hz hat hsv hr) hw kont
theorem agg0_of (S : Nat → Option (Option Box)) (ι : Nat → Nat × Nat) (w : Value) (h : LV.rel S ι (.sv (.agg [])) w) : w = .agg #[] := by
  obtain ⟨arr, rfl, h⟩ := h
  cases hl : arr.toList with
  | nil => rw [show arr = #[] by simpa using hl]
  | cons a l => rw [hl] at h; exact h.elim
theorem agg0_rel (S : Nat → Option (Option Box)) (ι : Nat → Nat × Nat) : SV.rel S ι (.agg []) (.agg #[]) := ⟨#[], rfl, trivial⟩
theorem K.mapPut {k : Nat} {t kt et : TypeId} {x y u : Operand} {ty : TypeId} {pos : String} {after_ : Array Edge} {g : Option (Nat × Bool)} {m : List (Value × Value)} (m' : List (Value × Value)) {e : TypeId} {cs : List CV} {key : Value} {l : Lit}
    (hx : (⟨s, bx, X⟩ : St).ev x = some (.sv (.one (.mp k)))) (hy : (⟨s, bx, X⟩ : St).ev y = some (.sv (.one (.val key)))) (hu : (⟨s, bx, X⟩ : St).ev u = some (.sv (.agg []))) (hk : (⟨s, bx, X⟩ : St).stat k = some (some ⟨e, cs, .res (mapR P kt m)⟩)) (hm : mapOf P t = some (kt, et)) (L : KL P kt) (hkey : Go.keyOf P kt key = some l) (hput : Put m key (.agg #[]) m') (hw : Want ops s g)
    (kont : RunK P n ops os ⟨s, (k, some ⟨0, [], .res (mapR P kt m')⟩) :: bx, X⟩ (⟨[], [], [(k, some ⟨0, [], .res (mapR P kt m')⟩)]⟩ :: acc) K) :
    RunK P n ops (⟨none, .mapUpdate t x y u, ty, pos, after_, g⟩ :: os) ⟨s, bx, X⟩ acc K := RunK.g3 (LOK.mapUpdate hx hy hu agg0_of hk hm L hkey hput) hw kont
end
theorem Le.trans {n : Nat} {C : Ctx} {σ1 σ2 σ3 : St} (h : Le n C σ1 σ2) (h' : Le n C σ2 σ3) : Le n C σ1 σ3 := ⟨fun ι a w hr => by
  obtain ⟨ι1, h1⟩ := h.out ι a w hr
  exact h'.out ι1 a w h1⟩
end Go.Lg
end
section
namespace Go.Lg.Fld
open Go Go.Lg
def nmM (ns : List (List UInt8)) : List (Value × Value) := ns.map fun l => (.string ⟨l.toArray⟩, .agg #[])
theorem nmM_at (ns : List (List UInt8)) (l : List UInt8) : At (nmM ns) (.string ⟨l.toArray⟩) (.agg #[]) (.agg #[]) := by
  by_cases h : l ∈ ns
  · exact .inl (List.mem_map.2 ⟨l, h, rfl⟩)
  · refine .inr ⟨fun p hp e => ?_, rfl⟩
    obtain ⟨l', hl', rfl⟩ := List.mem_map.1 hp
    simp only [Value.string.injEq, ByteArray.mk.injEq] at e
    exact h (by rw [show l = l' from (List.toArray_inj e.symm)]; exact hl')
theorem nmM_any (ns : List (List UInt8)) (l : List UInt8) (r : Bool) (hr : ns.any (fun m => m == l) = r) : r = true ↔ ∃ p ∈ nmM ns, p.1 = .string ⟨l.toArray⟩ := by
  subst hr
  rw [List.any_eq_true]
  constructor
  · rintro ⟨m, hm, he⟩
    rw [beq_iff_eq] at he
    subst he
    exact ⟨_, List.mem_map.2 ⟨m, hm, rfl⟩, rfl⟩
  · rintro ⟨p, hp, e⟩
    obtain ⟨l', hl', rfl⟩ := List.mem_map.1 hp
    simp only [Value.string.injEq, ByteArray.mk.injEq] at e
    exact ⟨l', hl', by rw [beq_iff_eq]; exact List.toArray_inj e⟩
theorem nmM_put {ns : List (List UInt8)} {l : List UInt8} (h : ns.any (fun m => m == l) = false) : Put (nmM ns) (.string ⟨l.toArray⟩) (.agg #[]) (nmM (ns ++ [l])) := by
  refine .inr ⟨fun p hp e => ?_, by unfold nmM; rw [List.map_append]; rfl⟩
  obtain ⟨l', hl', rfl⟩ := List.mem_map.1 hp
  simp only [Value.string.injEq, ByteArray.mk.injEq] at e
  rw [List.any_eq_false] at h
  exact h l' hl' (by rw [beq_iff_eq]; exact List.toArray_inj e)
end Go.Lg.Fld
namespace Go.Proofs.Ytjifibloagkeeaa
open Go Go.Lg Go.Lg.Fld
set_option maxRecDepth 100000
variable (X : Nat → Option Obj)
theorem isLetter_spec (c : UInt8) : PSpec Try.prog X 54 [Ln .u8 (c.toNat : Nat)] (Lb (letB c)) := by
  refine PSpec.intro Try.func54 rfl (by kernel_rfl) rfl rfl ?_
  intro C
  unfold letB
  by_cases h : 97 ≤ c.toNat
  · rw [decide_eq_true h, Bool.true_and]
    (refine LWP.seq <| LWP.region (by kernel_rfl) <| kas rfl <| RunK.nil <| LWP.seq <| LWP.region (by kernel_rfl) <| kmv rfl <| K.leq rfl rfl (decide_eq_true (by omega)) .plain <| kmv rfl <| gmv rfl rfl rfl <| K.leq rfl rfl (r := decide (c.toNat ≤ 122)) (by rw [decide_eq_decide]; omega) (.taken rfl rfl) ?_; refine kpt rfl rfl <| kas rfl <| RunK.nil <| LWP.ret ?_)
    exact ⟨[_], ⟨rfl, trivial⟩, rfl⟩
  · rw [decide_eq_false h, Bool.false_and]
    (refine LWP.seq <| LWP.region (by kernel_rfl) <| kas rfl <| RunK.nil <| LWP.seq <| LWP.region (by kernel_rfl) <| kmv rfl <| K.leq rfl rfl (decide_eq_false (by omega)) .plain <| kmv rfl <| RunK.passed rfl rfl rfl <| RunK.passed rfl rfl rfl <| kpf rfl rfl <| kas rfl <| RunK.nil ?_; refine LWP.ret ?_)
    exact ⟨[_], ⟨rfl, trivial⟩, rfl⟩
theorem isDigit_spec (c : UInt8) : PSpec Try.prog X 55 [Ln .u8 (c.toNat : Nat)] (Lb (digB c)) := by
  refine PSpec.intro Try.func55 rfl (by kernel_rfl) rfl rfl ?_
  intro C
  unfold digB
  by_cases h : 48 ≤ c.toNat
  · rw [decide_eq_true h, Bool.true_and]
    (refine LWP.seq <| LWP.region (by kernel_rfl) <| kas rfl <| RunK.nil <| LWP.seq <| LWP.region (by kernel_rfl) <| kmv rfl <| K.leq rfl rfl (decide_eq_true (by omega)) .plain <| kmv rfl <| gmv rfl rfl rfl <| K.leq rfl rfl (r := decide (c.toNat ≤ 57)) (by rw [decide_eq_decide]; omega) (.taken rfl rfl) ?_; refine kpt rfl rfl <| kas rfl <| RunK.nil <| LWP.ret ?_)
    exact ⟨[_], ⟨rfl, trivial⟩, rfl⟩
  · rw [decide_eq_false h, Bool.false_and]
    (refine LWP.seq <| LWP.region (by kernel_rfl) <| kas rfl <| RunK.nil <| LWP.seq <| LWP.region (by kernel_rfl) <| kmv rfl <| K.leq rfl rfl (decide_eq_false (by omega)) .plain <| kmv rfl <| RunK.passed rfl rfl rfl <| RunK.passed rfl rfl rfl <| kpf rfl rfl <| kas rfl <| RunK.nil ?_; refine LWP.ret ?_)
    exact ⟨[_], ⟨rfl, trivial⟩, rfl⟩
theorem nmC_zero (l : List UInt8) : nmC l 0 = letB (l.getD 0 0) := by unfold nmC; simp
theorem nmC_more {l : List UInt8} {i : Nat} (h : nmC l 0 = true) : nmC l i = (letB (l.getD i 0) || digB (l.getD i 0)) := by
  unfold nmC
  by_cases e : i = 0
  · subst e
    rw [nmC_zero] at h
    rw [h]; simp
  · simp [e]
theorem pIsName (l : List UInt8) (r : Bool) (hr : nmB l = r) : PSpec Try.prog X 40 [Ls l] (Lb r) := by
  subst hr
  refine PSpec.intro Try.func40 rfl (by kernel_rfl) rfl rfl ?_
  intro C
  have hlen : (⟨l.toArray⟩ : ByteArray).size = l.length := rfl
  by_cases h1 : l.length < 1
  · rw [show nmB l = false by unfold nmB; rw [decide_eq_false (by omega)]; rfl]
    (refine LWP.seq <| LWP.region (by kernel_rfl) <| kas rfl <| RunK.nil <| LWP.seq <| LWP.seq <| LWP.region (by kernel_rfl) <| kmv rfl <| kln rfl <| klt rfl rfl (decide_eq_true (by rw [hlen]; omega)) <| kmv rfl <| RunK.passed rfl rfl rfl <| RunK.passed rfl rfl rfl <| RunK.passed rfl rfl rfl ?_; refine kpt rfl rfl <| kmv rfl <| RunK.passed rfl rfl rfl <| RunK.passed rfl rfl rfl <| RunK.passed rfl rfl rfl <| RunK.passed rfl rfl rfl <| kpt rfl rfl <| RunK.nil <| LWP.condT rfl ?_; refine LWP.seq <| LWP.region (by kernel_rfl) <| kas rfl <| RunK.nil <| LWP.ret ?_)
    exact ⟨[_], ⟨rfl, trivial⟩, rfl⟩
  by_cases h2 : 12 < l.length
  · rw [show nmB l = false by unfold nmB; rw [decide_eq_false (show ¬l.length ≤ 12 by omega)]; simp]
    (refine LWP.seq <| LWP.region (by kernel_rfl) <| kas rfl <| RunK.nil <| LWP.seq <| LWP.seq <| LWP.region (by kernel_rfl) <| kmv rfl <| kln rfl <| klt rfl rfl (decide_eq_false (by rw [hlen]; omega)) <| kmv rfl <| gmv rfl rfl rfl <| K.lenStr rfl (.taken rfl rfl) ?_; refine K.gtr rfl rfl (decide_eq_true (by rw [hlen]; omega)) (.taken rfl rfl) ?_; refine kpf rfl rfl <| kmv rfl <| RunK.passed rfl rfl rfl <| RunK.passed rfl rfl rfl <| RunK.passed rfl rfl rfl <| RunK.passed rfl rfl rfl <| kpt rfl rfl <| RunK.nil <| LWP.condT rfl ?_; refine LWP.seq <| LWP.region (by kernel_rfl) <| kas rfl <| RunK.nil <| LWP.ret ?_)
    exact ⟨[_], ⟨rfl, trivial⟩, rfl⟩
  obtain ⟨c0, hc0⟩ : ∃ c, l[0]? = some c := ⟨_, List.getElem?_eq_getElem (by omega)⟩
  have hget0 : (⟨l.toArray⟩ : ByteArray)[(0 : Int).toNat]? = some c0 := str_at hc0
  have hz : nmC l 0 = letB c0 := by rw [nmC_zero, getD_of hc0]
  have hL := isLetter_spec X c0
  cases h0 : letB c0 with
  | false =>
    rw [nmB_false (i := 0) (by omega) (hz.trans h0)]
    rw [h0] at hL
    (refine LWP.seq <| LWP.region (by kernel_rfl) <| kas rfl <| RunK.nil <| LWP.seq <| LWP.seq <| LWP.region (by kernel_rfl) <| kmv rfl <| kln rfl <| klt rfl rfl (decide_eq_false (by rw [hlen]; omega)) <| kmv rfl <| gmv rfl rfl rfl <| K.lenStr rfl (.taken rfl rfl) ?_; refine K.gtr rfl rfl (decide_eq_false (by rw [hlen]; omega)) (.taken rfl rfl) ?_; refine kpf rfl rfl <| kmv rfl <| gmv rfl rfl rfl <| K.indexStr rfl rfl (by omega) hget0 (.taken rfl rfl) ?_; refine gca rfl rfl (hL) rfl rfl <| K.not rfl rfl (.taken rfl rfl) ?_; refine kpf rfl rfl <| RunK.nil <| LWP.condT rfl ?_; refine LWP.seq <| LWP.region (by kernel_rfl) <| kas rfl <| RunK.nil <| LWP.ret ?_)
    exact ⟨[_], ⟨rfl, trivial⟩, rfl⟩
  | true =>
    have hz1 := hz.trans h0
    rw [h0] at hL
    (refine LWP.seq <| LWP.region (by kernel_rfl) <| kas rfl <| RunK.nil <| LWP.seq <| LWP.seq <| LWP.region (by kernel_rfl) <| kmv rfl <| kln rfl <| klt rfl rfl (decide_eq_false (by rw [hlen]; omega)) <| kmv rfl <| gmv rfl rfl rfl <| K.lenStr rfl (.taken rfl rfl) ?_; refine K.gtr rfl rfl (decide_eq_false (by rw [hlen]; omega)) (.taken rfl rfl) ?_; refine kpf rfl rfl <| kmv rfl <| gmv rfl rfl rfl <| K.indexStr rfl rfl (by omega) hget0 (.taken rfl rfl) ?_; refine gca rfl rfl (hL) rfl rfl <| K.not rfl rfl (.taken rfl rfl) ?_; refine kpf rfl rfl <| RunK.nil <| LWP.condF rfl ?_; refine LWP.skip ?_; refine LWP.seq <| LWP.seq <| LWP.region (by kernel_rfl) <| kmv rfl <| kln rfl <| kmv rfl <| RunK.nil <| LWP.block ?_)
    refine LWP.loop (fun m σ => ∃ i : Nat, i ≤ l.length ∧ m = l.length - i ∧ (∀ j, j < i → nmC l j = true) ∧ σ = ⟨[(0, Ls l), (19, Ln .i64 (l.length : Nat)), (20, Ln .i64 (i : Nat))], [], X⟩) l.length
      ⟨_, Le.of (by exact ⟨rfl, rfl, rfl, trivial⟩) (by exact trivial) (by exact rfl) (by exact rfl) (by exact rfl), 0, by omega, by omega, fun j hj => absurd hj (by omega), rfl⟩ ?_
    rintro m σ ⟨i, hi, rfl, hpre, rfl⟩
    by_cases hlt : i < l.length
    · obtain ⟨c, hc⟩ : ∃ c, l[i]? = some c := ⟨_, List.getElem?_eq_getElem hlt⟩
      have hN : nmC l i = (letB c || digB c) := by rw [nmC_more hz1, getD_of hc]
      have hget : (⟨l.toArray⟩ : ByteArray)[(i : Int).toNat]? = some c := str_at (by rw [Int.toNat_natCast]; exact hc)
      have hA := isLetter_spec X c
      have hB := isDigit_spec X c
      have key : nmC l i = true → ∀ j, j < i + 1 → nmC l j = true := fun hok j hj => by
        by_cases e : j = i
        · rw [e]; exact hok
        · exact hpre j (by omega)
      cases ha : letB c with
      | true =>
        rw [ha] at hA
        (refine LWP.seq <| LWP.region (by kernel_rfl) <| klt rfl rfl (decide_eq_true (by omega)) <| RunK.nil <| LWP.seq <| LWP.condT rfl ?_; refine LWP.skip ?_; refine LWP.seq <| LWP.block <| LWP.seq <| LWP.region (by kernel_rfl) <| kmv rfl <| kas rfl <| RunK.nil <| LWP.seq <| LWP.region (by kernel_rfl) <| kmv rfl <| kmv rfl <| K.indexStr rfl rfl (by omega) hget .plain <| kca rfl rfl (hA) <| K.not rfl rfl .plain ?_; refine kmv rfl <| RunK.passed rfl rfl rfl <| RunK.passed rfl rfl rfl <| RunK.passed rfl rfl rfl <| RunK.passed rfl rfl rfl <| RunK.passed rfl rfl rfl <| kpf rfl rfl <| RunK.nil <| LWP.condF rfl ?_; refine LWP.skip ?_; refine LWP.region (by kernel_rfl) <| kad rfl rfl (wrap_i64 (by omega)) <| kmv rfl <| RunK.nil ?_)
        exact ⟨_, _, by omega, Le.of (by exact ⟨rfl, rfl, rfl, trivial⟩) (by exact trivial) (by exact rfl) (by exact rfl) (by exact rfl), i + 1, by omega, rfl, key (by rw [hN, ha]; rfl), rfl⟩
      | false =>
        rw [ha] at hA
        cases hb : digB c with
        | true =>
          rw [hb] at hB
          (refine LWP.seq <| LWP.region (by kernel_rfl) <| klt rfl rfl (decide_eq_true (by omega)) <| RunK.nil <| LWP.seq <| LWP.condT rfl ?_; refine LWP.skip ?_; refine LWP.seq <| LWP.block <| LWP.seq <| LWP.region (by kernel_rfl) <| kmv rfl <| kas rfl <| RunK.nil <| LWP.seq <| LWP.region (by kernel_rfl) <| kmv rfl <| kmv rfl <| K.indexStr rfl rfl (by omega) hget .plain <| kca rfl rfl (hA) <| K.not rfl rfl .plain ?_; refine kmv rfl <| gmv rfl rfl rfl <| gmv rfl rfl rfl <| K.indexStr rfl rfl (by omega) hget (.taken rfl rfl) ?_; refine gca rfl rfl (hB) rfl rfl <| K.not rfl rfl (.taken rfl rfl) ?_; refine kpt rfl rfl <| RunK.nil <| LWP.condF rfl ?_; refine LWP.skip ?_; refine LWP.region (by kernel_rfl) <| kad rfl rfl (wrap_i64 (by omega)) <| kmv rfl <| RunK.nil ?_)
          exact ⟨_, _, by omega, Le.of (by exact ⟨rfl, rfl, rfl, trivial⟩) (by exact trivial) (by exact rfl) (by exact rfl) (by exact rfl), i + 1, by omega, rfl, key (by rw [hN, ha, hb]; rfl), rfl⟩
        | false =>
          rw [hb] at hB
          rw [nmB_false hlt (by rw [hN, ha, hb]; rfl)]
          (refine LWP.seq <| LWP.region (by kernel_rfl) <| klt rfl rfl (decide_eq_true (by omega)) <| RunK.nil <| LWP.seq <| LWP.condT rfl ?_; refine LWP.skip ?_; refine LWP.seq <| LWP.block <| LWP.seq <| LWP.region (by kernel_rfl) <| kmv rfl <| kas rfl <| RunK.nil <| LWP.seq <| LWP.region (by kernel_rfl) <| kmv rfl <| kmv rfl <| K.indexStr rfl rfl (by omega) hget .plain <| kca rfl rfl (hA) <| K.not rfl rfl .plain ?_; refine kmv rfl <| gmv rfl rfl rfl <| gmv rfl rfl rfl <| K.indexStr rfl rfl (by omega) hget (.taken rfl rfl) ?_; refine gca rfl rfl (hB) rfl rfl <| K.not rfl rfl (.taken rfl rfl) ?_; refine kpt rfl rfl <| RunK.nil <| LWP.condT rfl ?_; refine LWP.seq <| LWP.region (by kernel_rfl) <| kas rfl <| RunK.nil <| LWP.ret ?_)
          exact ⟨[_], ⟨rfl, trivial⟩, rfl⟩
    · rw [nmB_true (by omega) (by omega) (fun j hj => hpre j (by omega))]
      (refine LWP.seq <| LWP.region (by kernel_rfl) <| klt rfl rfl (decide_eq_false (by omega)) <| RunK.nil <| LWP.seq <| LWP.condF rfl ?_; refine LWP.exit <| LWP.seq <| LWP.region (by kernel_rfl) <| kas rfl <| RunK.nil <| LWP.ret ?_)
      exact ⟨[_], ⟨rfl, trivial⟩, rfl⟩
abbrev nmBx (k : Nat) (ns : List (List UInt8)) : Nat × Option Box := (k, some ⟨0, [], .res (mapR Try.prog 9 (nmM ns))⟩)
abbrev Lmp (k : Nat) : LV := .sv (.one (.mp k))
theorem take_ok (ns : List (List UInt8)) (l : List UInt8) (hl : l.length ≤ 9223372036854775807) (h1 : ns.any (fun m => m == l) = false) (h2 : nmB l = true) :
    MSpec Try.prog X 30 [Lmp 1000000, Ls l] [nmBx 1000000 ns] (Lb true) [nmBx 1000000 (ns ++ [l])] := by
  refine MSpec.intro Try.func30 rfl (by kernel_rfl) rfl rfl (by exact (by repeat' (first | refine all_cons_true ?_ ?_ | rfl | exact bytes_inUse | exact vals_inUse | exact mid_inUse rfl))) rfl rfl ?_
  intro C
  have hN := pIsName X l true h2
  have hkey : Go.keyOf Try.prog 9 (.string ⟨l.toArray⟩) = some (.string l) := by
    rw [WideMaps.keyOf_string_mk (by kernel_rfl) (by show l.length ≤ maxLen; unfold maxLen; omega)]
  (refine LWP.seq <| LWP.region (by kernel_rfl) <| kas rfl <| RunK.nil <| LWP.seq <| LWP.seq <| LWP.region (by kernel_rfl) <| kmv rfl <| kmv rfl <| K.lookupOk (et := 90) (.agg []) (v := .agg #[]) (z := .agg #[]) rfl rfl rfl (by kernel_rfl) (KL.str (by kernel_rfl)) hkey (by kernel_rfl) (nmM_at ns l) agg0_rel (nmM_any ns l false h1) .plain ?_; refine kmv rfl <| kex rfl rfl <| kex rfl rfl <| K.alloc rfl .plain ?_; refine K.storeAll rfl rfl rfl rfl rfl rfl .plain ?_; refine kas rfl <| RunK.nil <| LWP.seq <| LWP.region (by kernel_rfl) <| kmv rfl <| kmv rfl <| gmv rfl rfl rfl <| gca rfl rfl (hN) rfl rfl <| K.not rfl rfl (.taken rfl rfl) ?_; refine kpf rfl rfl <| RunK.nil <| LWP.condF rfl ?_; refine LWP.skip ?_; refine LWP.seq <| LWP.region (by kernel_rfl) <| kmv rfl <| kmv rfl <| K.build rfl rfl (by exact rfl) (by exact nl0 rfl) .plain ?_; refine K.mapPut (et := 90) (nmM (ns ++ [l])) rfl rfl rfl rfl (by kernel_rfl) (KL.str (by kernel_rfl)) hkey (nmM_put h1) .plain ?_; refine RunK.nil <| LWP.seq <| LWP.region (by kernel_rfl) <| kas rfl <| RunK.nil <| LWP.ret ?_)
  exact ⟨[], ⟨[_], ⟨rfl, trivial⟩, rfl⟩, (by repeat' (first | exact trivial | refine And.intro ⟨_, rfl, ?_⟩ ?_ | refine And.intro ⟨_, rfl⟩ ?_ | rfl | exact Box.ren_bytes _ _ _ _ | exact Box.ren_vals _ _ _ _ | exact Box.ren_mid rfl)), rfl, rfl⟩
theorem take_no (ns : List (List UInt8)) (l : List UInt8) (hl : l.length ≤ 9223372036854775807) (h : ns.any (fun m => m == l) = true ∨ nmB l = false) :
    MSpec Try.prog X 30 [Lmp 1000000, Ls l] [nmBx 1000000 ns] (Lb false) [nmBx 1000000 ns] := by
  refine MSpec.intro Try.func30 rfl (by kernel_rfl) rfl rfl (by exact (by repeat' (first | refine all_cons_true ?_ ?_ | rfl | exact bytes_inUse | exact vals_inUse | exact mid_inUse rfl))) rfl rfl ?_
  intro C
  have hkey : Go.keyOf Try.prog 9 (.string ⟨l.toArray⟩) = some (.string l) := by
    rw [WideMaps.keyOf_string_mk (by kernel_rfl) (by show l.length ≤ maxLen; unfold maxLen; omega)]
  cases h1 : ns.any (fun m => m == l) with
  | true =>
    (refine LWP.seq <| LWP.region (by kernel_rfl) <| kas rfl <| RunK.nil <| LWP.seq <| LWP.seq <| LWP.region (by kernel_rfl) <| kmv rfl <| kmv rfl <| K.lookupOk (et := 90) (.agg []) (v := .agg #[]) (z := .agg #[]) rfl rfl rfl (by kernel_rfl) (KL.str (by kernel_rfl)) hkey (by kernel_rfl) (nmM_at ns l) agg0_rel (nmM_any ns l true h1) .plain ?_; refine kmv rfl <| kex rfl rfl <| kex rfl rfl <| K.alloc rfl .plain ?_; refine K.storeAll rfl rfl rfl rfl rfl rfl .plain ?_; refine kas rfl <| RunK.nil <| LWP.seq <| LWP.region (by kernel_rfl) <| kmv rfl <| kmv rfl <| RunK.passed rfl rfl rfl <| RunK.passed rfl rfl rfl <| RunK.passed rfl rfl rfl <| kpt rfl rfl <| RunK.nil <| LWP.condT rfl ?_; refine LWP.seq <| LWP.region (by kernel_rfl) <| kas rfl <| RunK.nil <| LWP.ret ?_)
    exact ⟨[], ⟨[_], ⟨rfl, trivial⟩, rfl⟩, (by repeat' (first | exact trivial | refine And.intro ⟨_, rfl, ?_⟩ ?_ | refine And.intro ⟨_, rfl⟩ ?_ | rfl | exact Box.ren_bytes _ _ _ _ | exact Box.ren_vals _ _ _ _ | exact Box.ren_mid rfl)), rfl, rfl⟩
  | false =>
    have hN := pIsName X l false (h.resolve_left (by rw [h1]; decide))
    (refine LWP.seq <| LWP.region (by kernel_rfl) <| kas rfl <| RunK.nil <| LWP.seq <| LWP.seq <| LWP.region (by kernel_rfl) <| kmv rfl <| kmv rfl <| K.lookupOk (et := 90) (.agg []) (v := .agg #[]) (z := .agg #[]) rfl rfl rfl (by kernel_rfl) (KL.str (by kernel_rfl)) hkey (by kernel_rfl) (nmM_at ns l) agg0_rel (nmM_any ns l false h1) .plain ?_; refine kmv rfl <| kex rfl rfl <| kex rfl rfl <| K.alloc rfl .plain ?_; refine K.storeAll rfl rfl rfl rfl rfl rfl .plain ?_; refine kas rfl <| RunK.nil <| LWP.seq <| LWP.region (by kernel_rfl) <| kmv rfl <| kmv rfl <| gmv rfl rfl rfl <| gca rfl rfl (hN) rfl rfl <| K.not rfl rfl (.taken rfl rfl) ?_; refine kpf rfl rfl <| RunK.nil <| LWP.condT rfl ?_; refine LWP.seq <| LWP.region (by kernel_rfl) <| kas rfl <| RunK.nil <| LWP.ret ?_)
    exact ⟨[], ⟨[_], ⟨rfl, trivial⟩, rfl⟩, (by repeat' (first | exact trivial | refine And.intro ⟨_, rfl, ?_⟩ ?_ | refine And.intro ⟨_, rfl⟩ ?_ | rfl | exact Box.ren_bytes _ _ _ _ | exact Box.ren_vals _ _ _ _ | exact Box.ren_mid rfl)), rfl, rfl⟩
end Go.Proofs.Ytjifibloagkeeaa
end
section
namespace Go.Lg.Fld
open Go Go.Lg
def NamesC (cs : List Cp) : Prop := ∀ c ∈ cs, c.fs.length < 4611686018427387904 ∧ c.nm.length ≤ 9223372036854775807 ∧ ∀ f ∈ c.fs, f.nm.length ≤ 9223372036854775807
theorem SmallC.names {cs : List Cp} (h : SmallC cs) : NamesC cs := fun c hc => by
  obtain ⟨h1, h2, h3⟩ := h.2 c hc
  exact ⟨by omega, by omega, fun f hf => by have := h3 f hf; omega⟩
theorem any_names {α : Type} (g : α → List UInt8) (l : List α) (i : Nat) (nm : List UInt8) : ((l.take i).map g).any (fun m => m == nm) = (l.take i).any (fun x => g x == nm) := by rw [List.any_map]; rfl
def fldsE (fs : List Fl) : Int := if firstE (fldE fs) 0 fs.length = 0 then layErr fs else 4
end Go.Lg.Fld
namespace Go.Proofs.Ytjifibloagkeeaa
open Go Go.Lg Go.Lg.Fld
set_option maxRecDepth 100000
variable (X : Nat → Option Obj)
theorem checkFields_spec (fad : Option Addr) (fcap : Nat) (fs : List Fl) (hF : FieldsIn X fad fs) (hbig : fs.length < 4611686018427387904) (hnm : ∀ f ∈ fs, f.nm.length ≤ 9223372036854775807) (e : Int) (he : fldsE fs = e) :
    PSpec Try.prog X 31 [Lx fad fs.length fcap] (Ln .i64 e) := by
  subst he
  refine PSpec.intro Try.func31 rfl (by kernel_rfl) rfl rfl ?_
  intro C
  (refine LWP.seq <| LWP.region (by kernel_rfl) <| kas rfl <| RunK.nil <| LWP.seq <| LWP.region (by kernel_rfl) <| K.makeMap 9 rfl .plain ?_; refine kas rfl <| RunK.nil <| LWP.seq <| LWP.seq <| LWP.region (by kernel_rfl) <| kmv rfl <| K.lenX rfl SliceT.h rfl .plain ?_; refine kmv rfl <| RunK.nil <| LWP.block ?_)
  refine LWP.loop (fun m σ => ∃ i : Nat, i ≤ fs.length ∧ m = fs.length - i ∧ (∀ j, 0 ≤ j → j < i → fldE fs j = 0) ∧ σ = ⟨[(0, Lx fad fs.length fcap), (3, Lmp 6), (7, Lx fad fs.length fcap), (8, Ln .i64 (fs.length : Nat)), (9, Ln .i64 (i : Nat))], [nmBx 6 ((fs.take i).map Fl.nm)], X⟩) fs.length
    ⟨_, Le.of (by exact ⟨rfl, rfl, rfl, rfl, rfl, trivial⟩) (by exact ⟨rfl, trivial⟩) (by exact rfl) (by exact rfl) (by repeat' (first | refine all_cons_true ?_ ?_ | rfl | exact bytes_inUse | exact vals_inUse | exact mid_inUse rfl)), 0, by omega, by omega, fun j _ hj => absurd hj (by omega), rfl⟩ ?_
  rintro m σ ⟨i, hi, rfl, hpre, rfl⟩
  by_cases hlt : i < fs.length
  · obtain ⟨f, hf⟩ : ∃ f, fs[i]? = some f := ⟨_, List.getElem?_eq_getElem hlt⟩
    obtain ⟨blk, off, arr, el, fr, rfl, hX, hsz, hcells⟩ := hF.at hf
    have hio : off + Int.toNat (i : Int) * 3 = off + i * 3 := by simp
    have hE := fldE_at hf
    have hnl := hnm f (List.mem_of_getElem? hf)
    have hany := any_names Fl.nm fs i f.nm
    have hts : (fs.take (i + 1)).map Fl.nm = (fs.take i).map Fl.nm ++ [f.nm] := by rw [take_snoc hf, List.map_append]; rfl
    by_cases hbad : fldE fs i = 0
    · rw [hbad] at hE
      have h2 : nmB f.nm = true := by
        cases h : nmB f.nm with
        | true => rfl
        | false => rw [h, if_neg (by decide)] at hE; cases hE
      rw [if_pos h2] at hE
      have h1 : ((fs.take i).map Fl.nm).any (fun m => m == f.nm) = false := by
        rw [hany]
        cases h : (fs.take i).any (fun g => g.nm == f.nm) with
        | false => rfl
        | true => rw [h, if_pos rfl] at hE; cases hE
      have hT := take_ok X ((fs.take i).map Fl.nm) f.nm hnl h1 h2
      rw [← hts] at hT
      generalize (fs.take i).map Fl.nm = ns at *
      generalize hns : (fs.take (i + 1)).map Fl.nm = ns' at *
      (refine LWP.seq <| LWP.region (by kernel_rfl) <| klt rfl rfl (decide_eq_true (by omega)) <| RunK.nil <| LWP.seq <| LWP.condT rfl ?_; refine LWP.skip ?_; refine LWP.seq <| LWP.block <| LWP.seq <| LWP.region (by kernel_rfl) <| K.indexX rfl rfl SliceT.h (by omega) hio .plain <| K.loadXagg rfl hX (by kernel_rfl) hsz hcells .plain <| K.alloc rfl .plain ?_; refine K.storeAll rfl rfl rfl rfl rfl rfl .plain ?_; refine RunK.nil <| LWP.seq <| LWP.region (by kernel_rfl) <| kmv rfl <| kfa rfl rfl ?_; refine kl1 rfl rfl rfl <| K.callM [(1000000, 6)] [nmBx 6 ns'] (hT) rfl rfl (by exact (And.intro ⟨_, rfl, rfl⟩ trivial)) (by exact (all_cons_true rfl rfl)) rfl rfl rfl rfl (by exact (.box rfl rfl .nil)) .plain <| K.not rfl rfl .plain <| RunK.nil <| LWP.condF rfl ?_; refine LWP.skip ?_; refine LWP.region (by kernel_rfl) <| kad rfl rfl (wrap_i64 (by omega)) <| kmv rfl <| RunK.nil ?_)
      subst hns
      exact ⟨_, _, by omega, Le.of (by exact ⟨rfl, rfl, rfl, rfl, rfl, trivial⟩) (by exact ⟨rfl, trivial⟩) (by exact rfl) (by exact rfl) (by repeat' (first | refine all_cons_true ?_ ?_ | rfl | exact bytes_inUse | exact vals_inUse | exact mid_inUse rfl)), i + 1, by omega, rfl, (fun j h0 hj => by
        by_cases e : j = i
        · rw [e]; exact hbad
        · exact hpre j h0 (by omega)), rfl⟩
    · have h4 : fldE fs i = 4 := by
        rw [hE] at hbad ⊢
        cases h0 : nmB f.nm with
        | false => rfl
        | true =>
          rw [h0] at hbad
          cases h' : (fs.take i).any (fun g => g.nm == f.nm) with
          | true => rfl
          | false => rw [h'] at hbad; exact absurd rfl hbad
      have hno : ((fs.take i).map Fl.nm).any (fun m => m == f.nm) = true ∨ nmB f.nm = false := by
        rw [hany]
        rw [hE] at hbad
        cases h : nmB f.nm with
        | false => exact .inr rfl
        | true =>
          left
          rw [h, if_pos rfl] at hbad
          cases h' : (fs.take i).any (fun g => g.nm == f.nm) with
          | true => rfl
          | false => rw [h', if_neg (by decide)] at hbad; exact absurd rfl hbad
      have hfin : fldsE fs = 4 := by unfold fldsE; rw [firstE_some hpre (Nat.zero_le _) (by omega) h4 (by decide), if_neg (by decide)]
      rw [hfin]
      have hT := take_no X ((fs.take i).map Fl.nm) f.nm hnl hno
      generalize (fs.take i).map Fl.nm = ns at *
      (refine LWP.seq <| LWP.region (by kernel_rfl) <| klt rfl rfl (decide_eq_true (by omega)) <| RunK.nil <| LWP.seq <| LWP.condT rfl ?_; refine LWP.skip ?_; refine LWP.seq <| LWP.block <| LWP.seq <| LWP.region (by kernel_rfl) <| K.indexX rfl rfl SliceT.h (by omega) hio .plain <| K.loadXagg rfl hX (by kernel_rfl) hsz hcells .plain <| K.alloc rfl .plain ?_; refine K.storeAll rfl rfl rfl rfl rfl rfl .plain ?_; refine RunK.nil <| LWP.seq <| LWP.region (by kernel_rfl) <| kmv rfl <| kfa rfl rfl ?_; refine kl1 rfl rfl rfl <| K.callM [(1000000, 6)] [nmBx 6 ns] (hT) rfl rfl (by exact (And.intro ⟨_, rfl, rfl⟩ trivial)) (by exact (all_cons_true rfl rfl)) rfl rfl rfl rfl (by exact (.box rfl rfl .nil)) .plain <| K.not rfl rfl .plain <| RunK.nil <| LWP.condT rfl ?_; refine LWP.seq <| LWP.region (by kernel_rfl) <| kas rfl <| RunK.nil <| LWP.ret ?_)
      exact ⟨[_], ⟨rfl, trivial⟩, rfl⟩
  · have hfin : fldsE fs = layErr fs := by unfold fldsE; rw [if_pos (firstE_none fun j h0 hj => hpre j h0 (by omega))]
    rw [hfin]
    have hL := Check_spec X fad fcap fs hF hbig
    generalize layErr fs = e at *
    (refine LWP.seq <| LWP.region (by kernel_rfl) <| klt rfl rfl (decide_eq_false (by omega)) <| RunK.nil <| LWP.seq <| LWP.condF rfl ?_; refine LWP.exit <| LWP.seq <| LWP.region (by kernel_rfl) <| kmv rfl <| kca rfl rfl (hL) <| kas rfl <| RunK.nil <| LWP.ret ?_)
    exact ⟨[_], ⟨rfl, trivial⟩, rfl⟩
theorem cmpE_flds {cs : List Cp} {i : Nat} {c : Cp} (h : cs[i]? = some c) : cmpE cs i = if c.id < 1 ∨ 24 < c.id ∨ (0 < i ∧ c.id ≤ prevId cs i) then 1
    else if nmB c.nm = true then (if (cs.take i).any (fun g => g.nm == c.nm) = true then 4 else fldsE c.fs) else 4 := cmpE_at h
set_option maxHeartbeats 3200000 in
theorem pCheckBig (s : Sc) (ad : Option Addr) (cap : Nat) (hin : CompsIn X ad s.cs) (hbig : s.cs.length < 4611686018427387904) (hN : NamesC s.cs) (e : Int) (he : chkE s = e) : PSpec Try.prog X 21 [Sx s.ver ad s.cs.length cap] (Ln .i64 e) := by
  subst he
  obtain ⟨ver, cs⟩ := s
  simp only at hin hbig hN ⊢
  refine PSpec.intro Try.func21 rfl (by kernel_rfl) rfl rfl ?_
  intro C
  unfold chkE
  by_cases hv1 : ver < 1
  · rw [if_pos (.inl hv1)]
    (refine LWP.seq <| LWP.region (by kernel_rfl) <| K.box rfl rfl rfl .plain <| kas rfl <| RunK.nil <| LWP.seq <| LWP.seq <| LWP.region (by kernel_rfl) <| kfa rfl rfl ?_; refine kl1 rfl rfl rfl <| klt rfl rfl (decide_eq_true hv1) <| kmv rfl <| RunK.passed rfl rfl rfl <| RunK.passed rfl rfl rfl <| RunK.passed rfl rfl rfl <| kpt rfl rfl <| RunK.nil <| LWP.condT rfl ?_; refine LWP.seq <| LWP.region (by kernel_rfl) <| kas rfl <| RunK.nil <| LWP.ret ?_)
    exact ⟨[_], ⟨rfl, trivial⟩, rfl⟩
  by_cases hv2 : 1073741824 < ver
  · rw [if_pos (.inr hv2)]
    (refine LWP.seq <| LWP.region (by kernel_rfl) <| K.box rfl rfl rfl .plain <| kas rfl <| RunK.nil <| LWP.seq <| LWP.seq <| LWP.region (by kernel_rfl) <| kfa rfl rfl ?_; refine kl1 rfl rfl rfl <| klt rfl rfl (decide_eq_false hv1) <| kmv rfl <| K.fieldAddr rfl rfl (.taken rfl rfl) ?_; refine K.loadOne rfl rfl rfl (.taken rfl rfl) ?_; refine K.gtr rfl rfl (decide_eq_true hv2) (.taken rfl rfl) ?_; refine kpf rfl rfl <| RunK.nil <| LWP.condT rfl ?_; refine LWP.seq <| LWP.region (by kernel_rfl) <| kas rfl <| RunK.nil <| LWP.ret ?_)
    exact ⟨[_], ⟨rfl, trivial⟩, rfl⟩
  rw [if_neg (show ¬(ver < 1 ∨ 1073741824 < ver) by omega)]
  (refine LWP.seq <| LWP.region (by kernel_rfl) <| K.box rfl rfl rfl .plain <| kas rfl <| RunK.nil <| LWP.seq <| LWP.seq <| LWP.region (by kernel_rfl) <| kfa rfl rfl ?_; refine kl1 rfl rfl rfl <| klt rfl rfl (decide_eq_false hv1) <| kmv rfl <| K.fieldAddr rfl rfl (.taken rfl rfl) ?_; refine K.loadOne rfl rfl rfl (.taken rfl rfl) ?_; refine K.gtr rfl rfl (decide_eq_false hv2) (.taken rfl rfl) ?_; refine kpf rfl rfl <| RunK.nil <| LWP.condF rfl ?_; refine LWP.skip ?_; refine LWP.seq <| LWP.region (by kernel_rfl) <| K.makeMap 9 rfl .plain ?_; refine kas rfl <| kas rfl <| RunK.nil <| LWP.seq <| LWP.seq <| LWP.region (by kernel_rfl) <| kfa rfl rfl ?_; refine kl1 rfl rfl rfl <| K.lenX rfl SliceT.h rfl .plain ?_; refine kmv rfl <| RunK.nil <| LWP.block ?_)
  refine LWP.loop (fun m σ => ∃ (i : Nat) (last : Int), i ≤ cs.length ∧ m = cs.length - i ∧ (∀ j, 0 ≤ j → j < i → cmpE cs j = 0) ∧ (∀ x : Int, x ≤ last ↔ (x < 1 ∨ (0 < i ∧ x ≤ prevId cs i))) ∧ σ = ⟨[(3, Ln .i64 last), (4, Lmp 16), (18, Lx ad cs.length cap), (19, Ln .i64 (cs.length : Nat)), (20, Ln .i64 (i : Nat))], [nmBx 16 ((cs.take i).map Cp.nm)], X⟩) cs.length
    ⟨_, Le.of (by exact ⟨rfl, rfl, rfl, rfl, rfl, trivial⟩) (by exact ⟨rfl, trivial⟩) (by exact rfl) (by exact rfl) (by repeat' (first | refine all_cons_true ?_ ?_ | rfl | exact bytes_inUse | exact vals_inUse | exact mid_inUse rfl)), 0, 0, by omega, by omega, fun j _ hj => absurd hj (by omega), fun x => by omega, rfl⟩ ?_
  rintro m σ ⟨i, last, hi, rfl, hpre, hlast, rfl⟩
  by_cases hlt : i < cs.length
  · obtain ⟨c, hc⟩ : ∃ c, cs[i]? = some c := ⟨_, List.getElem?_eq_getElem hlt⟩
    obtain ⟨blk, off, arr, el, fr, fad, fcap, rfl, hX, hsz, hcs, _, _, _, hF⟩ := hin.get hc
    have hio : off + Int.toNat (i : Int) * 3 = off + i * 3 := by simp
    have hE := cmpE_flds hc
    obtain ⟨hfb, hnl, hfn⟩ := hN c (List.mem_of_getElem? hc)
    have fin : ∀ e, cmpE cs i = e → e ≠ 0 → firstE (cmpE cs) 0 cs.length = e := fun e he h0 => firstE_some hpre (Nat.zero_le _) (by omega) he h0
    have hany := any_names Cp.nm cs i c.nm
    have hts : (cs.take (i + 1)).map Cp.nm = (cs.take i).map Cp.nm ++ [c.nm] := by rw [take_snoc hc, List.map_append]; rfl
    (refine LWP.seq <| LWP.region (by kernel_rfl) <| klt rfl rfl (decide_eq_true (by omega)) <| RunK.nil <| LWP.seq <| LWP.condT rfl ?_; refine LWP.skip ?_; refine LWP.seq <| LWP.block <| LWP.seq <| LWP.region (by kernel_rfl) <| K.indexX rfl rfl SliceT.h (by omega) hio .plain <| K.loadXagg rfl hX (by kernel_rfl) hsz hcs .plain <| K.alloc rfl .plain ?_; refine K.storeAll rfl rfl rfl rfl rfl rfl .plain ?_; refine RunK.nil <| LWP.seq <| LWP.seq ?_)
    refine LWP.le (σ' := ⟨[(3, Ln .i64 last), (4, Lmp 16), (6, Lp 6), (18, Lx (some ⟨blk, off, none⟩) cs.length cap), (19, Ln .i64 (cs.length : Nat)), (20, Ln .i64 (i : Nat))], [nmBx 16 ((cs.take i).map Cp.nm), cpB 6 c fad fcap], X⟩) (Le.of (by exact ⟨rfl, rfl, rfl, rfl, rfl, rfl, trivial⟩) (by exact ⟨rfl, rfl, trivial⟩) (by exact rfl) (by exact rfl) (by repeat' (first | refine all_cons_true ?_ ?_ | rfl | exact bytes_inUse | exact vals_inUse | exact mid_inUse rfl))) ?_
    by_cases hq1 : c.id ≤ last
    · rw [if_pos (by rcases (hlast c.id).1 hq1 with h | h; exact .inl h; exact .inr (.inr h))] at hE
      rw [fin 1 hE (by decide)]
      (refine LWP.region (by kernel_rfl) <| kfa rfl rfl ?_; refine kl1 rfl rfl rfl <| kmv rfl <| K.leq rfl rfl (decide_eq_true hq1) .plain <| kmv rfl <| RunK.passed rfl rfl rfl <| RunK.passed rfl rfl rfl <| RunK.passed rfl rfl rfl <| kpt rfl rfl <| RunK.nil <| LWP.condT rfl ?_; refine LWP.seq <| LWP.region (by kernel_rfl) <| kas rfl <| RunK.nil <| LWP.ret ?_)
      exact ⟨[_], ⟨rfl, trivial⟩, rfl⟩
    by_cases hq2 : 24 < c.id
    · rw [if_pos (.inr (.inl hq2))] at hE
      rw [fin 1 hE (by decide)]
      (refine LWP.region (by kernel_rfl) <| kfa rfl rfl ?_; refine kl1 rfl rfl rfl <| kmv rfl <| K.leq rfl rfl (decide_eq_false hq1) .plain <| kmv rfl <| K.fieldAddr rfl rfl (.taken rfl rfl) ?_; refine K.loadOne rfl rfl rfl (.taken rfl rfl) ?_; refine K.gtr rfl rfl (decide_eq_true hq2) (.taken rfl rfl) ?_; refine kpf rfl rfl <| RunK.nil <| LWP.condT rfl ?_; refine LWP.seq <| LWP.region (by kernel_rfl) <| kas rfl <| RunK.nil <| LWP.ret ?_)
      exact ⟨[_], ⟨rfl, trivial⟩, rfl⟩
    have hq3 : ¬(c.id < 1 ∨ (0 < i ∧ c.id ≤ prevId cs i)) := fun h => hq1 ((hlast c.id).2 h)
    rw [if_neg (show ¬(c.id < 1 ∨ 24 < c.id ∨ (0 < i ∧ c.id ≤ prevId cs i)) from fun h => by rcases h with h | h | h; exact hq3 (.inl h); exact hq2 h; exact hq3 (.inr h))] at hE
    by_cases hno : ((cs.take i).map Cp.nm).any (fun m => m == c.nm) = true ∨ nmB c.nm = false
    · have h4 : cmpE cs i = 4 := by
        rw [hE]
        rw [hany] at hno
        rcases hno with h | h
        · rw [h]; simp
        · rw [h]; simp
      rw [fin 4 h4 (by decide)]
      have hT := take_no X ((cs.take i).map Cp.nm) c.nm hnl hno
      generalize (cs.take i).map Cp.nm = ns at *
      (refine LWP.region (by kernel_rfl) <| kfa rfl rfl ?_; refine kl1 rfl rfl rfl <| kmv rfl <| K.leq rfl rfl (decide_eq_false hq1) .plain <| kmv rfl <| K.fieldAddr rfl rfl (.taken rfl rfl) ?_; refine K.loadOne rfl rfl rfl (.taken rfl rfl) ?_; refine K.gtr rfl rfl (decide_eq_false hq2) (.taken rfl rfl) ?_; refine kpf rfl rfl <| RunK.nil <| LWP.condF rfl ?_; refine LWP.skip ?_; refine LWP.seq <| LWP.region (by kernel_rfl) <| kfa rfl rfl ?_; refine kl1 rfl rfl rfl <| kas rfl <| RunK.nil <| LWP.seq <| LWP.seq <| LWP.region (by kernel_rfl) <| kmv rfl <| kfa rfl rfl ?_; refine kl1 rfl rfl rfl <| K.callM [(1000000, 16)] [nmBx 16 ns] (hT) rfl rfl (by exact (And.intro ⟨_, rfl, rfl⟩ trivial)) (by exact (all_cons_true rfl rfl)) rfl rfl rfl rfl (by exact (.box rfl rfl .nil)) .plain <| K.not rfl rfl .plain <| RunK.nil <| LWP.condT rfl ?_; refine LWP.seq <| LWP.region (by kernel_rfl) <| kas rfl <| RunK.nil <| LWP.ret ?_)
      exact ⟨[_], ⟨rfl, trivial⟩, rfl⟩
    have h1 : ((cs.take i).map Cp.nm).any (fun m => m == c.nm) = false := by
      cases h : ((cs.take i).map Cp.nm).any (fun m => m == c.nm) with
      | false => rfl
      | true => exact absurd (.inl h) hno
    have h2 : nmB c.nm = true := by
      cases h : nmB c.nm with
      | true => rfl
      | false => exact absurd (.inr h) hno
    rw [if_pos h2, ← hany, h1, if_neg (by decide)] at hE
    have hT := take_ok X ((cs.take i).map Cp.nm) c.nm hnl h1 h2
    rw [← hts] at hT
    have hCF := checkFields_spec X fad fcap c.fs hF hfb hfn (fldsE c.fs) rfl
    generalize (cs.take i).map Cp.nm = ns at *
    generalize hns : (cs.take (i + 1)).map Cp.nm = ns' at *
    by_cases hz : fldsE c.fs = 0
    · rw [hz] at hCF hE
      (refine LWP.region (by kernel_rfl) <| kfa rfl rfl ?_; refine kl1 rfl rfl rfl <| kmv rfl <| K.leq rfl rfl (decide_eq_false hq1) .plain <| kmv rfl <| K.fieldAddr rfl rfl (.taken rfl rfl) ?_; refine K.loadOne rfl rfl rfl (.taken rfl rfl) ?_; refine K.gtr rfl rfl (decide_eq_false hq2) (.taken rfl rfl) ?_; refine kpf rfl rfl <| RunK.nil <| LWP.condF rfl ?_; refine LWP.skip ?_; refine LWP.seq <| LWP.region (by kernel_rfl) <| kfa rfl rfl ?_; refine kl1 rfl rfl rfl <| kas rfl <| RunK.nil <| LWP.seq <| LWP.seq <| LWP.region (by kernel_rfl) <| kmv rfl <| kfa rfl rfl ?_; refine kl1 rfl rfl rfl <| K.callM [(1000000, 16)] [nmBx 16 ns'] (hT) rfl rfl (by exact (And.intro ⟨_, rfl, rfl⟩ trivial)) (by exact (all_cons_true rfl rfl)) rfl rfl rfl rfl (by exact (.box rfl rfl .nil)) .plain <| K.not rfl rfl .plain <| RunK.nil <| LWP.condF rfl ?_; refine LWP.skip ?_; refine LWP.seq <| LWP.region (by kernel_rfl) <| kfa rfl rfl ?_; refine kl1 rfl rfl rfl <| kca rfl rfl (hCF) <| kas rfl <| RunK.nil <| LWP.seq <| LWP.region (by kernel_rfl) <| kmv rfl <| kne rfl rfl ((bne_eq_false_iff_eq.2 (by omega))) <| RunK.nil <| LWP.condF rfl ?_; refine LWP.skip ?_; refine LWP.region (by kernel_rfl) <| kad rfl rfl (wrap_i64 (by omega)) <| kmv rfl <| RunK.nil ?_)
      subst hns
      exact ⟨_, _, by omega, Le.of (by exact ⟨rfl, rfl, rfl, rfl, rfl, trivial⟩) (by exact ⟨rfl, trivial⟩) (by exact rfl) (by exact rfl) (by repeat' (first | refine all_cons_true ?_ ?_ | rfl | exact bytes_inUse | exact vals_inUse | exact mid_inUse rfl)), i + 1, c.id, by omega, rfl, (fun j h0 hj => by
        by_cases e : j = i
        · rw [e]; exact hE
        · exact hpre j h0 (by omega)), (fun x => by
        have hp : prevId cs (i + 1) = c.id := by unfold prevId; rw [Nat.add_sub_cancel, hc]; rfl
        rw [hp]; omega), rfl⟩
    · rw [fin _ hE hz]
      have hne : (fldsE c.fs != 0) = true := by rw [bne_iff_ne]; exact hz
      generalize fldsE c.fs = e at *
      (refine LWP.region (by kernel_rfl) <| kfa rfl rfl ?_; refine kl1 rfl rfl rfl <| kmv rfl <| K.leq rfl rfl (decide_eq_false hq1) .plain <| kmv rfl <| K.fieldAddr rfl rfl (.taken rfl rfl) ?_; refine K.loadOne rfl rfl rfl (.taken rfl rfl) ?_; refine K.gtr rfl rfl (decide_eq_false hq2) (.taken rfl rfl) ?_; refine kpf rfl rfl <| RunK.nil <| LWP.condF rfl ?_; refine LWP.skip ?_; refine LWP.seq <| LWP.region (by kernel_rfl) <| kfa rfl rfl ?_; refine kl1 rfl rfl rfl <| kas rfl <| RunK.nil <| LWP.seq <| LWP.seq <| LWP.region (by kernel_rfl) <| kmv rfl <| kfa rfl rfl ?_; refine kl1 rfl rfl rfl <| K.callM [(1000000, 16)] [nmBx 16 ns'] (hT) rfl rfl (by exact (And.intro ⟨_, rfl, rfl⟩ trivial)) (by exact (all_cons_true rfl rfl)) rfl rfl rfl rfl (by exact (.box rfl rfl .nil)) .plain <| K.not rfl rfl .plain <| RunK.nil <| LWP.condF rfl ?_; refine LWP.skip ?_; refine LWP.seq <| LWP.region (by kernel_rfl) <| kfa rfl rfl ?_; refine kl1 rfl rfl rfl <| kca rfl rfl (hCF) <| kas rfl <| RunK.nil <| LWP.seq <| LWP.region (by kernel_rfl) <| kmv rfl <| kne rfl rfl hne <| RunK.nil <| LWP.condT rfl ?_; refine LWP.seq <| LWP.region (by kernel_rfl) <| kmv rfl <| kas rfl <| RunK.nil <| LWP.ret ?_)
      exact ⟨[_], ⟨rfl, trivial⟩, rfl⟩
  · rw [show firstE (cmpE cs) 0 cs.length = 0 from firstE_none fun j h0 hj => hpre j h0 (by omega)]
    (refine LWP.seq <| LWP.region (by kernel_rfl) <| klt rfl rfl (decide_eq_false (by omega)) <| RunK.nil <| LWP.seq <| LWP.condF rfl ?_; refine LWP.exit <| LWP.seq <| LWP.region (by kernel_rfl) <| kas rfl <| RunK.nil <| LWP.ret ?_)
    exact ⟨[_], ⟨rfl, trivial⟩, rfl⟩
end Go.Proofs.Ytjifibloagkeeaa
end
section
namespace Go.Lg.Fld
open Go Go.Lg
theorem fields_reads {X : Nat → Option Obj} {ad : Option Addr} {fs : List Fl} (h : FieldsIn X ad fs) : ReadsX X ad (flV fs) := ⟨fun j u hj => by
  have hjl := (List.getElem?_eq_some_iff.1 hj).1
  rw [flV_len] at hjl
  obtain ⟨f, hf⟩ : ∃ f, fs[j / 3]? = some f := ⟨_, List.getElem?_eq_getElem (by omega)⟩
  obtain ⟨blk, off, arr, el, fr, rfl, hX, hsz, hcs⟩ := h.rows (j / 3) f.vals (by rw [List.getElem?_map, hf]; rfl)
  refine ⟨blk, off, arr, el, fr, rfl, hX, ?_⟩
  obtain ⟨h1, h2⟩ := flV_at hf
  have h3 : ((flV fs).drop (j / 3 * 3)).take 3 = (arr.toList.drop (off + j / 3 * 3)).take 3 := by rw [h2, hcs]
  have h4 : (((flV fs).drop (j / 3 * 3)).take 3)[j % 3]? = ((arr.toList.drop (off + j / 3 * 3)).take 3)[j % 3]? := by rw [h3]
  rw [List.getElem?_take, List.getElem?_take, if_pos (Nat.mod_lt _ (by omega)), if_pos (Nat.mod_lt _ (by omega)), List.getElem?_drop, List.getElem?_drop, show j / 3 * 3 + j % 3 = j by omega, show off + j / 3 * 3 + j % 3 = off + j by omega, hj, Array.getElem?_toList] at h4
  exact h4.symm⟩
theorem flV_one (fs : List Fl) : ∀ u ∈ flV fs, u.oneCell' = true := fun u hu => by
  unfold flV at hu
  rw [List.mem_flatten] at hu
  obtain ⟨l, hl, hu⟩ := hu
  obtain ⟨f, _, rfl⟩ := List.mem_map.1 hl
  simp only [Fl.vals, List.mem_cons, List.not_mem_nil, or_false] at hu
  rcases hu with rfl | rfl | rfl <;> rfl
theorem FieldsIn.none {X : Nat → Option Obj} {fs : List Fl} (h : FieldsIn X none fs) : fs = [] := by
  cases hfs : fs with
  | nil => rfl
  | cons f t =>
    obtain ⟨_, _, _, _, _, e, _⟩ := h.nm (k := 0) (f := f) (by rw [hfs]; rfl)
    cases e
end Go.Lg.Fld
namespace Go.Proofs.Ytjifibloagkeeaa
open Go Go.Lg Go.Lg.Fld
set_option maxRecDepth 100000
abbrev SCx (c : Cp) (fad : Option Addr) (fcap : Nat) : SV := .agg [.val (.int .i64 c.id), .val (.string ⟨c.nm.toArray⟩), .val (.slice fad c.fs.length fcap)]
abbrev SC0 : SV := .agg [.val (.int .i64 0), .val (.string ⟨#[]⟩), .val (.slice none 0 0)]
abbrev SCs (c : Cp) (k : Nat) : SV := .agg [.val (.int .i64 c.id), .val (.string ⟨c.nm.toArray⟩), .slc k 0 c.fs.length 3]
abbrev fdB (k : Nat) (fs : List Fl) : Nat × Option Box := (k, some ⟨94, (flV fs).map .val, true⟩)
abbrev Lf (f : FuncId) (caps : List Value) : LV := .sv (.one (.val (.func (.func f) #[] caps.toArray)))
variable (X : Nat → Option Obj)
theorem idxC_spec (ad : Option Addr) (cap : Nat) (cs : List Cp) (hin : CompsIn X ad cs) (hbig : cs.length < 4611686018427387904) (f : FuncId) (caps : List Value) (p : Cp → Bool)
    (hp : ∀ c ∈ cs, ∀ fad fcap, PSpec Try.prog X f ([Cx c fad fcap] ++ caps.map fun v => .sv (.one (.val v))) (Lb (p c))) :
    PSpec Try.prog X 56 [Lx ad cs.length cap, Lf f caps] (Ln .i64 (findI p cs)) := by
  refine PSpec.intro Try.func56 rfl (by kernel_rfl) rfl rfl ?_
  intro C
  (refine LWP.seq <| LWP.region (by kernel_rfl) <| kas rfl <| RunK.nil <| LWP.seq <| LWP.seq <| LWP.region (by kernel_rfl) <| kmv rfl <| K.lenX rfl SliceT.h rfl .plain ?_; refine kmv rfl <| RunK.nil <| LWP.block ?_)
  refine LWP.loop (fun m σ => ∃ i : Nat, i ≤ cs.length ∧ m = cs.length - i ∧ (∀ (j : Nat) (y : Cp), j < i → cs[j]? = some y → p y = false) ∧ σ = ⟨[(0, Lx ad cs.length cap), (1, Lf f caps), (7, Ln .i64 (cs.length : Nat)), (8, Ln .i64 (i : Nat))], [], X⟩) cs.length
    ⟨_, Le.of (by exact ⟨rfl, rfl, rfl, rfl, trivial⟩) (by exact trivial) (by exact rfl) (by exact rfl) (by exact rfl), 0, by omega, by omega, fun j y hj => absurd hj (by omega), rfl⟩ ?_
  rintro m σ ⟨i, hi, rfl, hpre, rfl⟩
  by_cases hlt : i < cs.length
  · obtain ⟨c, hc⟩ : ∃ c, cs[i]? = some c := ⟨_, List.getElem?_eq_getElem hlt⟩
    obtain ⟨blk, off, arr, el, fr, fad, fcap, rfl, hX, hsz, hcs, _, _, _, hF⟩ := hin.get hc
    have hio : off + Int.toNat (i : Int) * 3 = off + i * 3 := by simp
    have hP := hp c (List.mem_of_getElem? hc) fad fcap
    cases hpc : p c with
    | true =>
      rw [hpc] at hP
      rw [findI_some hpre hc hpc]
      (refine LWP.seq <| LWP.region (by kernel_rfl) <| klt rfl rfl (decide_eq_true (by omega)) <| RunK.nil <| LWP.seq <| LWP.condT rfl ?_; refine LWP.skip ?_; refine LWP.seq <| LWP.block <| LWP.seq <| LWP.region (by kernel_rfl) <| kmv rfl <| kas rfl <| RunK.nil <| LWP.seq <| LWP.region (by kernel_rfl) <| kmv rfl <| kmv rfl <| kmv rfl <| K.indexX rfl rfl SliceT.h (by omega) hio .plain <| K.loadXagg rfl hX (by kernel_rfl) hsz hcs .plain ?_; refine K.callF rfl rfl rfl hP .plain ?_; refine RunK.nil <| LWP.condT rfl ?_; refine LWP.seq <| LWP.region (by kernel_rfl) <| kmv rfl <| kas rfl <| RunK.nil <| LWP.ret ?_)
      exact ⟨[_], ⟨rfl, trivial⟩, rfl⟩
    | false =>
      rw [hpc] at hP
      (refine LWP.seq <| LWP.region (by kernel_rfl) <| klt rfl rfl (decide_eq_true (by omega)) <| RunK.nil <| LWP.seq <| LWP.condT rfl ?_; refine LWP.skip ?_; refine LWP.seq <| LWP.block <| LWP.seq <| LWP.region (by kernel_rfl) <| kmv rfl <| kas rfl <| RunK.nil <| LWP.seq <| LWP.region (by kernel_rfl) <| kmv rfl <| kmv rfl <| kmv rfl <| K.indexX rfl rfl SliceT.h (by omega) hio .plain <| K.loadXagg rfl hX (by kernel_rfl) hsz hcs .plain ?_; refine K.callF rfl rfl rfl hP .plain ?_; refine RunK.nil <| LWP.condF rfl ?_; refine LWP.skip ?_; refine LWP.region (by kernel_rfl) <| kad rfl rfl (wrap_i64 (by omega)) <| kmv rfl <| RunK.nil ?_)
      exact ⟨_, _, by omega, Le.of (by exact ⟨rfl, rfl, rfl, rfl, trivial⟩) (by exact trivial) (by exact rfl) (by exact rfl) (by exact rfl), i + 1, by omega, rfl, (fun j y hj hy => by
        by_cases e : j = i
        · subst e; rw [hc] at hy; cases hy; exact hpc
        · exact hpre j y (by omega) hy), rfl⟩
  · rw [findI_none fun j y hy => hpre j y (by have := (List.getElem?_eq_some_iff.1 hy).1; omega) hy]
    (refine LWP.seq <| LWP.region (by kernel_rfl) <| klt rfl rfl (decide_eq_false (by omega)) <| RunK.nil <| LWP.seq <| LWP.condF rfl ?_; refine LWP.exit <| LWP.seq <| LWP.region (by kernel_rfl) <| kas rfl <| RunK.nil <| LWP.ret ?_)
    exact ⟨[_], ⟨rfl, trivial⟩, rfl⟩
abbrev Vp (b : Nat) : LV := .sv (.one (.val (.pointer (some ⟨b, 0, none⟩))))
theorem find1_spec (c : Cp) (fad : Option Addr) (fcap : Nat) (id : Int) {b : Nat} {arr : Array Value} {el : TypeId} {fr : Nat × Nat} (hX : X b = some (.cells arr el fr)) (h0 : arr[0]? = some (.int .i64 id)) :
    PSpec Try.prog X 53 [Cx c fad fcap, Vp b] (Lb (c.id == id)) := by
  refine PSpec.intro Try.func53 rfl (by kernel_rfl) rfl rfl ?_
  intro C
  (refine LWP.seq <| LWP.region (by kernel_rfl) <| K.box rfl rfl rfl .plain <| kas rfl <| RunK.nil <| LWP.seq <| LWP.region (by kernel_rfl) <| kfa rfl rfl ?_; refine kl1 rfl rfl rfl <| K.loadX rfl hX rfl h0 .plain <| keq rfl rfl rfl <| kas rfl <| RunK.nil <| LWP.ret ?_)
  exact ⟨[_], ⟨rfl, trivial⟩, rfl⟩
theorem fclone_nil (cap : Nat) : PSpec Try.prog X 42 [Lx none 0 cap] (Lx none 0 0) := by
  refine PSpec.intro Try.func42 rfl (by kernel_rfl) rfl rfl ?_
  intro C
  (refine LWP.seq <| LWP.region (by kernel_rfl) <| kas rfl <| RunK.nil <| LWP.seq <| LWP.seq <| LWP.region (by kernel_rfl) <| kmv rfl <| K.slcNil (r := true) rfl SliceT.h (.inl ⟨rfl, rfl⟩) .plain ?_; refine RunK.nil <| LWP.condT rfl ?_; refine LWP.seq <| LWP.region (by kernel_rfl) <| kas rfl <| RunK.nil <| LWP.ret ?_)
  exact ⟨[_], ⟨rfl, trivial⟩, rfl⟩
theorem fclone_some (fa : Addr) (cap : Nat) (fs : List Fl) (hF : FieldsIn X (some fa) fs) (hb : fs.length ≤ 4398046511104) :
    MSpec Try.prog X 42 [Lx (some fa) fs.length cap] [] (.sv (.one (.slc 1000001 0 fs.length 3))) [fdB 1000001 fs] := by
  refine MSpec.intro Try.func42 rfl (by kernel_rfl) rfl rfl (by exact (by repeat' (first | refine all_cons_true ?_ ?_ | rfl | exact bytes_inUse | exact vals_inUse | exact mid_inUse rfl))) rfl rfl ?_
  intro C
  (refine LWP.seq <| LWP.region (by kernel_rfl) <| kas rfl <| RunK.nil <| LWP.seq <| LWP.seq <| LWP.region (by kernel_rfl) <| kmv rfl <| K.slcNil (r := false) rfl SliceT.h (.inl ⟨rfl, rfl⟩) .plain ?_; refine RunK.nil <| LWP.condF rfl ?_; refine LWP.skip ?_; refine LWP.seq <| LWP.region (by kernel_rfl) <| K.buildSlc (zs := []) (sz := 3) (e := 94) (by kernel_rfl) rfl rfl rfl rfl rfl rfl .plain <| kmv rfl <| K.appendX (by_ := 32) (e2 := 94) (news := flV fs) (nl := fs.length) (nc := (flV fs).map .val) rfl rfl rfl rfl (fields_reads hF) (flV_len fs) (flV_one fs) (by kernel_rfl) (by kernel_rfl) (by omega) (by omega) rfl (by omega) rfl .plain ?_; refine kas rfl <| RunK.nil <| LWP.ret ?_)
  exact ⟨[(1000001, 7)], ⟨[_], ⟨rfl, trivial⟩, rfl⟩, (by repeat' (first | exact trivial | refine And.intro ⟨_, rfl, ?_⟩ ?_ | refine And.intro ⟨_, rfl⟩ ?_ | rfl | exact Box.ren_bytes _ _ _ _ | exact Box.ren_vals _ _ _ _ | exact Box.ren_mid rfl)), rfl, rfl⟩
theorem cclone_nil (c : Cp) (cap : Nat) (h : c.fs = []) : PSpec Try.prog X 32 [Cx c none cap] (.sv (SCx c none 0)) := by
  refine PSpec.intro Try.func32 rfl (by kernel_rfl) rfl rfl ?_
  intro C
  have hq := fclone_nil X cap
  obtain ⟨id, nm, fs⟩ := c
  simp only at h
  subst h
  (refine LWP.seq <| LWP.region (by kernel_rfl) <| K.box rfl rfl rfl .plain <| K.alloc rfl .plain ?_; refine RunK.nil <| LWP.seq <| LWP.region (by kernel_rfl) <| kfa rfl rfl ?_; refine kl1 rfl rfl rfl <| kca rfl rfl hq <| kfa rfl rfl ?_; refine K.storeOne rfl rfl rfl rfl rfl (nl3 rfl rfl rfl rfl) .plain <| RunK.nil <| LWP.seq <| LWP.region (by kernel_rfl) <| K.loadAll rfl rfl rfl .plain ?_; refine K.storeAll rfl rfl rfl rfl rfl rfl .plain ?_; refine RunK.nil <| LWP.ret ?_)
  exact ⟨[_], ⟨⟨_, _, rfl, rfl, rfl, .inl ⟨AggT.h, rfl⟩⟩, trivial⟩, rfl⟩
theorem cclone_some (c : Cp) (fa : Addr) (cap : Nat) (hF : FieldsIn X (some fa) c.fs) (hb : c.fs.length ≤ 4398046511104) :
    MSpec Try.prog X 32 [Cx c (some fa) cap] [] (.sv (SCs c 1000001)) [fdB 1000001 c.fs] := by
  refine MSpec.intro Try.func32 rfl (by kernel_rfl) rfl rfl (by exact (by repeat' (first | refine all_cons_true ?_ ?_ | rfl | exact bytes_inUse | exact vals_inUse | exact mid_inUse rfl))) rfl rfl ?_
  intro C
  have hq := fclone_some X fa cap c.fs hF hb
  (refine LWP.seq <| LWP.region (by kernel_rfl) <| K.box rfl rfl rfl .plain <| K.alloc rfl .plain ?_; refine RunK.nil <| LWP.seq <| LWP.region (by kernel_rfl) <| kfa rfl rfl ?_; refine kl1 rfl rfl rfl <| K.callMp [(1000001, 20)] (.sv (.one (.slc 20 0 c.fs.length 3))) [fdB 20 c.fs] (hq) rfl rfl (by exact trivial) rfl rfl rfl rfl rfl (by exact (.box rfl (Box.ren_vals _ _ _ _) .nil)) .plain <| kfa rfl rfl ?_; refine K.storeOne rfl rfl rfl rfl rfl (nl3 rfl rfl rfl rfl) .plain <| RunK.nil <| LWP.seq <| LWP.region (by kernel_rfl) <| K.loadAll rfl rfl rfl .plain ?_; refine K.storeAll rfl rfl rfl rfl rfl rfl .plain ?_; refine RunK.nil <| LWP.ret ?_)
  exact ⟨[(1000001, 20)], ⟨[_], ⟨⟨_, _, rfl, rfl, rfl, .inl ⟨AggT.h, rfl⟩⟩, trivial⟩, rfl⟩, (by repeat' (first | exact trivial | refine And.intro ⟨_, rfl, ?_⟩ ?_ | refine And.intro ⟨_, rfl⟩ ?_ | rfl | exact Box.ren_bytes _ _ _ _ | exact Box.ren_vals _ _ _ _ | exact Box.ren_mid rfl)), rfl, rfl⟩
section
variable (ver : Int) (ad : Option Addr) (cap : Nat) (cs : List Cp) (f : FuncId) (caps : List Value) (p : Cp → Bool)
theorem first_no (hin : CompsIn X ad cs) (hbig : cs.length < 4611686018427387904) (hp : ∀ c ∈ cs, ∀ fad fcap, PSpec Try.prog X f ([Cx c fad fcap] ++ caps.map fun v => .sv (.one (.val v))) (Lb (p c))) (hno : findI p cs = -1) :
    PSpec Try.prog X 52 [Sx ver ad cs.length cap, Lf f caps] (.tup [SC0, Sb false]) := by
  refine PSpec.intro Try.func52 rfl (by kernel_rfl) rfl rfl ?_
  intro C
  have hI := idxC_spec X ad cap cs hin hbig f caps p hp
  rw [hno] at hI
  (refine LWP.seq <| LWP.region (by kernel_rfl) <| K.box rfl rfl rfl .plain <| K.alloc rfl .plain ?_; refine kas rfl <| RunK.nil <| LWP.seq <| LWP.region (by kernel_rfl) <| kfa rfl rfl ?_; refine kl1 rfl rfl rfl <| kmv rfl <| kca rfl rfl hI <| kas rfl <| RunK.nil <| LWP.seq <| LWP.seq <| LWP.region (by kernel_rfl) <| kmv rfl <| klt rfl rfl rfl <| RunK.nil <| LWP.condT rfl ?_; refine LWP.seq <| LWP.region (by kernel_rfl) <| K.build rfl rfl (by exact rfl) (by exact nl3 rfl rfl rfl rfl) .plain ?_; refine K.storeAll rfl rfl rfl rfl rfl rfl .plain ?_; refine kas rfl <| RunK.nil <| LWP.ret ?_)
  exact ⟨[_, _], ⟨⟨_, _, rfl, rfl, rfl, .inl ⟨AggT.h, rfl⟩⟩, rfl, trivial⟩, rfl⟩
theorem first_nil (hin : CompsIn X ad cs) (hbig : cs.length < 4611686018427387904) (hp : ∀ c ∈ cs, ∀ fad fcap, PSpec Try.prog X f ([Cx c fad fcap] ++ caps.map fun v => .sv (.one (.val v))) (Lb (p c)))
    {i : Nat} {c : Cp} (hpre : ∀ (j : Nat) (y : Cp), j < i → cs[j]? = some y → p y = false) (hc : cs[i]? = some c) (he : p c = true)
    {blk off : Nat} {arr : Array Value} {el : TypeId} {fr : Nat × Nat} {fcap : Nat} (had : ad = some ⟨blk, off, none⟩) (hX : X blk = some (.cells arr el fr)) (hsz : off + i * 3 + 3 ≤ arr.size) (hcs : ((arr.toList.drop (off + i * 3)).take 3).map CV.val = [.val (.int .i64 c.id), .val (.string ⟨c.nm.toArray⟩), .val (.slice none c.fs.length fcap)]) (h0 : c.fs = []) :
    PSpec Try.prog X 52 [Sx ver ad cs.length cap, Lf f caps] (.tup [SCx c none 0, Sb true]) := by
  subst had
  have hI := idxC_spec X _ cap cs hin hbig f caps p hp
  rw [findI_some hpre hc he] at hI
  have hi := (List.getElem?_eq_some_iff.1 hc).1
  have hio : off + Int.toNat (i : Int) * 3 = off + i * 3 := by simp
  refine PSpec.intro Try.func52 rfl (by kernel_rfl) rfl rfl ?_
  intro C
  have hq := cclone_nil X c fcap h0
  (refine LWP.seq <| LWP.region (by kernel_rfl) <| K.box rfl rfl rfl .plain <| K.alloc rfl .plain ?_; refine kas rfl <| RunK.nil <| LWP.seq <| LWP.region (by kernel_rfl) <| kfa rfl rfl ?_; refine kl1 rfl rfl rfl <| kmv rfl <| kca rfl rfl hI <| kas rfl <| RunK.nil <| LWP.seq <| LWP.seq <| LWP.region (by kernel_rfl) <| kmv rfl <| klt rfl rfl (decide_eq_false (by omega)) <| RunK.nil <| LWP.condF rfl ?_; refine LWP.skip ?_; refine LWP.seq <| LWP.region (by kernel_rfl) <| kfa rfl rfl ?_; refine kl1 rfl rfl rfl <| kmv rfl <| K.indexX rfl rfl SliceT.h (by omega) hio .plain <| K.loadXagg rfl hX (by kernel_rfl) hsz hcs .plain <| kca rfl rfl hq <| K.storeAll rfl rfl rfl rfl rfl rfl .plain ?_; refine kas rfl <| RunK.nil <| LWP.ret ?_)
  exact ⟨[_, _], ⟨⟨_, _, rfl, rfl, rfl, .inl ⟨AggT.h, rfl⟩⟩, rfl, trivial⟩, rfl⟩
theorem first_box (hin : CompsIn X ad cs) (hbig : cs.length < 4611686018427387904) (hp : ∀ c ∈ cs, ∀ fad fcap, PSpec Try.prog X f ([Cx c fad fcap] ++ caps.map fun v => .sv (.one (.val v))) (Lb (p c)))
    {i : Nat} {c : Cp} (hpre : ∀ (j : Nat) (y : Cp), j < i → cs[j]? = some y → p y = false) (hc : cs[i]? = some c) (he : p c = true)
    {blk off : Nat} {arr : Array Value} {el : TypeId} {fr : Nat × Nat} {fcap : Nat} {fa : Addr} (had : ad = some ⟨blk, off, none⟩) (hX : X blk = some (.cells arr el fr)) (hsz : off + i * 3 + 3 ≤ arr.size) (hcs : ((arr.toList.drop (off + i * 3)).take 3).map CV.val = [.val (.int .i64 c.id), .val (.string ⟨c.nm.toArray⟩), .val (.slice (some fa) c.fs.length fcap)]) (hF : FieldsIn X (some fa) c.fs) (hfb : c.fs.length ≤ 4398046511104) :
    MSpec Try.prog X 52 [Sx ver ad cs.length cap, Lf f caps] [] (.tup [SCs c 1000001, Sb true]) [fdB 1000001 c.fs] := by
  subst had
  have hI := idxC_spec X _ cap cs hin hbig f caps p hp
  rw [findI_some hpre hc he] at hI
  have hi := (List.getElem?_eq_some_iff.1 hc).1
  have hio : off + Int.toNat (i : Int) * 3 = off + i * 3 := by simp
  refine MSpec.intro Try.func52 rfl (by kernel_rfl) rfl rfl (by exact (by repeat' (first | refine all_cons_true ?_ ?_ | rfl | exact bytes_inUse | exact vals_inUse | exact mid_inUse rfl))) rfl rfl ?_
  intro C
  have hq := cclone_some X c fa fcap hF hfb
  (refine LWP.seq <| LWP.region (by kernel_rfl) <| K.box rfl rfl rfl .plain <| K.alloc rfl .plain ?_; refine kas rfl <| RunK.nil <| LWP.seq <| LWP.region (by kernel_rfl) <| kfa rfl rfl ?_; refine kl1 rfl rfl rfl <| kmv rfl <| kca rfl rfl hI <| kas rfl <| RunK.nil <| LWP.seq <| LWP.seq <| LWP.region (by kernel_rfl) <| kmv rfl <| klt rfl rfl (decide_eq_false (by omega)) <| RunK.nil <| LWP.condF rfl ?_; refine LWP.skip ?_; refine LWP.seq <| LWP.region (by kernel_rfl) <| kfa rfl rfl ?_; refine kl1 rfl rfl rfl <| kmv rfl <| K.indexX rfl rfl SliceT.h (by omega) hio .plain <| K.loadXagg rfl hX (by kernel_rfl) hsz hcs .plain <| K.callMp [(1000001, 20)] (.sv (SCs c 20)) [fdB 20 c.fs] (hq) rfl rfl (by exact trivial) rfl rfl rfl rfl rfl (by exact (.box rfl (Box.ren_vals _ _ _ _) .nil)) .plain <| K.storeAll rfl rfl rfl rfl rfl rfl .plain ?_; refine kas rfl <| RunK.nil <| LWP.ret ?_)
  exact ⟨[(1000001, 20)], ⟨[_, _], ⟨⟨_, _, rfl, rfl, rfl, .inl ⟨AggT.h, rfl⟩⟩, rfl, trivial⟩, rfl⟩, (by repeat' (first | exact trivial | refine And.intro ⟨_, rfl, ?_⟩ ?_ | refine And.intro ⟨_, rfl⟩ ?_ | rfl | exact Box.ren_bytes _ _ _ _ | exact Box.ren_vals _ _ _ _ | exact Box.ren_mid rfl)), rfl, rfl⟩
end
theorem at_zero {arr : Array Value} {v : Value} (h : ∃ sp, arr.toList = [v] ++ sp) : arr[0]? = some v := by
  obtain ⟨sp, h⟩ := h
  rw [← Array.getElem?_toList, h]; rfl
theorem pFind_no (ver : Int) (ad : Option Addr) (cap : Nat) (cs : List Cp) (id : Int) (hin : CompsIn X ad cs) (hbig : cs.length < 4611686018427387904) (hno : ∀ (j : Nat) (y : Cp), cs[j]? = some y → (y.id == id) = false) :
    PSpec Try.prog X 37 [Sx ver ad cs.length cap, Ln .i64 id] (.tup [SC0, Sb false]) := by
  refine PSpec.intro Try.func37 rfl (by kernel_rfl) rfl rfl ?_
  intro C
  (refine LWP.seq <| LWP.region (by kernel_rfl) <| K.box rfl rfl rfl .plain <| K.box1 rfl rfl rfl .plain <| K.alloc rfl .plain ?_; refine kas rfl <| RunK.nil <| LWP.seq ?_)
  refine LWP.le (σ' := ⟨[(3, Lp 3), (2, Lp 2), (4, Lp 4)], [(3, some ⟨3, [Value.int .i64 id].map .val, false⟩), sxB 2 ver ad cs.length cap, (4, some ⟨54, [.val (.int .i64 0), .val (.string ⟨#[]⟩), .val (.slice none 0 0)], false⟩)], X⟩) (Le.of (by exact ⟨rfl, rfl, rfl, trivial⟩) (by exact ⟨rfl, rfl, rfl, trivial⟩) (by exact rfl) (by exact rfl) (by repeat' (first | refine all_cons_true ?_ ?_ | rfl | exact bytes_inUse | exact vals_inUse | exact mid_inUse rfl))) ?_
  refine LWP.freezePtr (by rfl) (by rfl) (by rfl) fun b arr0 fr0 hn _ h0 => ?_
  have hin' := hin.mono (withBlock_old (o := .cells arr0 3 fr0) hn)
  have hp := fun (c : Cp) (_ : c ∈ cs) (fad : Option Addr) (fcap : Nat) => find1_spec _ c fad fcap id (withBlock_at X b (.cells arr0 3 fr0)) (at_zero h0)
  have hq := first_no _ ver ad cap cs 53 [.pointer (some ⟨b, 0, none⟩)] (fun c => c.id == id) hin' hbig hp (findI_none hno)
  (refine LWP.region (by kernel_rfl) <| K.loadAll rfl rfl rfl .plain ?_; refine K.makeFunc rfl rfl .plain ?_; refine kca rfl rfl hq <| kex rfl rfl <| kex rfl rfl <| K.storeAll rfl rfl rfl rfl rfl rfl .plain ?_; refine kas rfl <| RunK.nil <| LWP.ret ?_)
  exact ⟨[_, _], ⟨⟨_, _, rfl, rfl, rfl, .inl ⟨AggT.h, rfl⟩⟩, rfl, trivial⟩, rfl⟩
theorem pFind (ver : Int) (ad : Option Addr) (cap : Nat) (cs : List Cp) (id : Int) (hin : CompsIn X ad cs) (hbig : cs.length < 4611686018427387904) (hfs : ∀ c ∈ cs, c.fs.length ≤ 4398046511104) {i : Nat} {c : Cp} (hpre : ∀ (j : Nat) (y : Cp), j < i → cs[j]? = some y → (y.id == id) = false) (hc : cs[i]? = some c) (he : c.id = id) :
    (c.fs = [] ∧ PSpec Try.prog X 37 [Sx ver ad cs.length cap, Ln .i64 id] (.tup [SCx c none 0, Sb true])) ∨
      MSpec Try.prog X 37 [Sx ver ad cs.length cap, Ln .i64 id] [] (.tup [SCs c 1000001, Sb true]) [fdB 1000001 c.fs] := by
  have he' : (c.id == id) = true := by rw [beq_iff_eq]; exact he
  obtain ⟨blk, off, arr, el, fr, fad, fcap, rfl, hX, hsz, hcs, _, _, _, hF⟩ := hin.get hc
  cases fad with
  | none =>
    have hnil := hF.none
    refine .inl ⟨hnil, ?_⟩
    refine PSpec.intro Try.func37 rfl (by kernel_rfl) rfl rfl ?_
    intro C
    (refine LWP.seq <| LWP.region (by kernel_rfl) <| K.box rfl rfl rfl .plain <| K.box1 rfl rfl rfl .plain <| K.alloc rfl .plain ?_; refine kas rfl <| RunK.nil <| LWP.seq ?_)
    refine LWP.le (σ' := ⟨[(3, Lp 3), (2, Lp 2), (4, Lp 4)], [(3, some ⟨3, [Value.int .i64 id].map .val, false⟩), sxB 2 ver (some ⟨blk, off, none⟩) cs.length cap, (4, some ⟨54, [.val (.int .i64 0), .val (.string ⟨#[]⟩), .val (.slice none 0 0)], false⟩)], X⟩) (Le.of (by exact ⟨rfl, rfl, rfl, trivial⟩) (by exact ⟨rfl, rfl, rfl, trivial⟩) (by exact rfl) (by exact rfl) (by repeat' (first | refine all_cons_true ?_ ?_ | rfl | exact bytes_inUse | exact vals_inUse | exact mid_inUse rfl))) ?_
    refine LWP.freezePtr (by rfl) (by rfl) (by rfl) fun b arr0 fr0 hn _ h0 => ?_
    have hin' := hin.mono (withBlock_old (o := .cells arr0 3 fr0) hn)
    have hp := fun (c : Cp) (_ : c ∈ cs) (fad : Option Addr) (fcap : Nat) => find1_spec _ c fad fcap id (withBlock_at X b (.cells arr0 3 fr0)) (at_zero h0)
    have hq := first_nil _ ver _ cap cs 53 [.pointer (some ⟨b, 0, none⟩)] (fun c => c.id == id) hin' hbig hp hpre hc he' rfl (withBlock_old hn _ _ hX) hsz hcs hnil
    (refine LWP.region (by kernel_rfl) <| K.loadAll rfl rfl rfl .plain ?_; refine K.makeFunc rfl rfl .plain ?_; refine kca rfl rfl hq <| kex rfl rfl <| kex rfl rfl <| K.storeAll rfl rfl rfl rfl rfl rfl .plain ?_; refine kas rfl <| RunK.nil <| LWP.ret ?_)
    exact ⟨[_, _], ⟨⟨_, _, rfl, rfl, rfl, .inl ⟨AggT.h, rfl⟩⟩, rfl, trivial⟩, rfl⟩
  | some fa =>
    refine .inr ?_
    refine MSpec.intro Try.func37 rfl (by kernel_rfl) rfl rfl (by exact (by repeat' (first | refine all_cons_true ?_ ?_ | rfl | exact bytes_inUse | exact vals_inUse | exact mid_inUse rfl))) rfl rfl ?_
    intro C
    (refine LWP.seq <| LWP.region (by kernel_rfl) <| K.box rfl rfl rfl .plain <| K.box1 rfl rfl rfl .plain <| K.alloc rfl .plain ?_; refine kas rfl <| RunK.nil <| LWP.seq ?_)
    refine LWP.le (σ' := ⟨[(3, Lp 3), (2, Lp 2), (4, Lp 4)], [(3, some ⟨3, [Value.int .i64 id].map .val, false⟩), sxB 2 ver (some ⟨blk, off, none⟩) cs.length cap, (4, some ⟨54, [.val (.int .i64 0), .val (.string ⟨#[]⟩), .val (.slice none 0 0)], false⟩)], X⟩) (Le.of (by exact ⟨rfl, rfl, rfl, trivial⟩) (by exact ⟨rfl, rfl, rfl, trivial⟩) (by exact rfl) (by exact rfl) (by repeat' (first | refine all_cons_true ?_ ?_ | rfl | exact bytes_inUse | exact vals_inUse | exact mid_inUse rfl))) ?_
    refine LWP.freezePtr (by rfl) (by rfl) (by rfl) fun b arr0 fr0 hn _ h0 => ?_
    have hin' := hin.mono (withBlock_old (o := .cells arr0 3 fr0) hn)
    have hp := fun (c : Cp) (_ : c ∈ cs) (fad : Option Addr) (fcap : Nat) => find1_spec _ c fad fcap id (withBlock_at X b (.cells arr0 3 fr0)) (at_zero h0)
    have hq := first_box _ ver _ cap cs 53 [.pointer (some ⟨b, 0, none⟩)] (fun c => c.id == id) hin' hbig hp hpre hc he' rfl (withBlock_old hn _ _ hX) hsz hcs (hF.mono (withBlock_old hn)) (hfs c (List.mem_of_getElem? hc))
    (refine LWP.region (by kernel_rfl) <| K.loadAll rfl rfl rfl .plain ?_; refine K.makeFunc rfl rfl .plain ?_; refine K.callMp [(1000001, 20)] (.tup [SCs c 20, Sb true]) [fdB 20 c.fs] (hq) rfl rfl (by exact trivial) rfl rfl rfl rfl rfl (by exact (.box rfl (Box.ren_vals _ _ _ _) .nil)) .plain <| kex rfl rfl <| kex rfl rfl <| K.storeAll rfl rfl rfl rfl rfl rfl .plain ?_; refine kas rfl <| RunK.nil <| LWP.ret ?_)
    exact ⟨[(1000001, 20)], ⟨[_, _], ⟨⟨_, _, rfl, rfl, rfl, .inl ⟨AggT.h, rfl⟩⟩, rfl, trivial⟩, rfl⟩, (by repeat' (first | exact trivial | refine And.intro ⟨_, rfl, ?_⟩ ?_ | refine And.intro ⟨_, rfl⟩ ?_ | rfl | exact Box.ren_bytes _ _ _ _ | exact Box.ren_vals _ _ _ _ | exact Box.ren_mid rfl)), rfl, rfl⟩
end Go.Proofs.Ytjifibloagkeeaa
end
section
namespace Go.Lg.Fld
open Go Go.Lg
def idsV (cs : List Cp) : List Value := cs.map fun c => .int .i64 c.id
end Go.Lg.Fld
namespace Go.Proofs.Ytjifibloagkeeaa
open Go Go.Lg Go.Lg.Fld
set_option maxRecDepth 100000
variable (X : Nat → Option Obj)
theorem pIds (ver : Int) (ad : Option Addr) (cap : Nat) (cs : List Cp) (hin : CompsIn X ad cs) (hS : cs.length ≤ 65536) : MSpec Try.prog X 44 [Sx ver ad cs.length cap] [] (.sv (.one (.slc 1000001 0 cs.length))) [(1000001, some ⟨3, (idsV cs).map .val, false⟩)] := by
  refine MSpec.intro Try.func44 rfl (by kernel_rfl) rfl rfl (by exact (by repeat' (first | refine all_cons_true ?_ ?_ | rfl | exact bytes_inUse | exact vals_inUse | exact mid_inUse rfl))) rfl rfl ?_
  intro C
  have hmk : slcBuild Try.prog 80 cs.length = some (List.replicate cs.length (.int .i64 0), 1, 3) := slcBuild_one (by kernel_rfl) (by kernel_rfl) (by omega)
  (refine LWP.seq <| LWP.region (by kernel_rfl) <| K.box rfl rfl rfl .plain <| kas rfl <| RunK.nil <| LWP.seq <| LWP.region (by kernel_rfl) <| kfa rfl rfl ?_; refine kl1 rfl rfl rfl <| K.lenX rfl SliceT.h rfl .plain ?_; refine K.makeSlc (m := cs.length) (bytes := 8) rfl rfl hmk (by kernel_rfl) (by omega) rfl rfl .plain <| kas rfl <| RunK.nil <| LWP.seq <| LWP.seq <| LWP.region (by kernel_rfl) <| kfa rfl rfl ?_; refine kl1 rfl rfl rfl <| K.lenX rfl SliceT.h rfl .plain ?_; refine kmv rfl <| RunK.nil <| LWP.block ?_)
  refine LWP.loop (fun m σ => ∃ i : Nat, i ≤ cs.length ∧ m = cs.length - i ∧ σ = ⟨[(3, .sv (.one (.slc 9 0 cs.length))), (11, Lx ad cs.length cap), (12, Ln .i64 (cs.length : Nat)), (13, Ln .i64 (i : Nat))], [(9, some ⟨3, (idsV (cs.take i) ++ List.replicate (cs.length - i) (Value.int .i64 0)).map .val, false⟩)], X⟩) cs.length
    ⟨_, Le.of (by exact ⟨rfl, rfl, rfl, rfl, trivial⟩) (by exact ⟨rfl, trivial⟩) (by exact rfl) (by exact rfl) (by repeat' (first | refine all_cons_true ?_ ?_ | rfl | exact bytes_inUse | exact vals_inUse | exact mid_inUse rfl)), 0, by omega, by omega, rfl⟩ ?_
  rintro m σ ⟨i, hi, rfl, rfl⟩
  by_cases hlt : i < cs.length
  · obtain ⟨c, hc⟩ : ∃ c, cs[i]? = some c := ⟨_, List.getElem?_eq_getElem hlt⟩
    obtain ⟨blk, off, arr, el, fr, fad, fcap, rfl, hX, hsz, hcs, _, _, _, hF⟩ := hin.get hc
    have hio : off + Int.toNat (i : Int) * 3 = off + i * 3 := by simp
    have hix : 0 + Int.toNat (i : Int) * 1 = i := by rw [Int.toNat_natCast]; omega
    have hil : (idsV (cs.take i)).length = i := by unfold idsV; rw [List.length_map, List.length_take]; omega
    have hroom : i + 1 ≤ ((idsV (cs.take i) ++ List.replicate (cs.length - i) (Value.int .i64 0)).map CV.val).length := by rw [List.length_map, List.length_append, hil, List.length_replicate]; omega
    have hspl : splice ((idsV (cs.take i) ++ List.replicate (cs.length - i) (Value.int .i64 0)).map CV.val) i [.val (.int .i64 c.id)] = (idsV (cs.take (i + 1)) ++ List.replicate (cs.length - (i + 1)) (Value.int .i64 0)).map CV.val := by
      unfold splice
      rw [show cs.length - i = (cs.length - (i + 1)) + 1 by omega, List.replicate_succ, take_snoc hc]
      have e : idsV (cs.take i ++ [c]) = idsV (cs.take i) ++ [.int .i64 c.id] := by unfold idsV; rw [List.map_append]; rfl
      rw [e]
      simp only [List.map_append, List.append_assoc]
      have hml : ((idsV (cs.take i)).map CV.val).length = i := by rw [List.length_map, hil]
      generalize (idsV (cs.take i)).map CV.val = R at *
      rw [← hml, List.take_left, List.drop_length_add_append]
      simp
    (refine LWP.seq <| LWP.region (by kernel_rfl) <| klt rfl rfl (decide_eq_true (by omega)) <| RunK.nil <| LWP.seq <| LWP.condT rfl ?_; refine LWP.skip ?_; refine LWP.seq <| LWP.block <| LWP.seq <| LWP.region (by kernel_rfl) <| kmv rfl <| K.indexX rfl rfl SliceT.h (by omega) hio .plain <| K.loadXagg rfl hX (by kernel_rfl) hsz hcs .plain <| K.alloc rfl .plain ?_; refine kas rfl <| K.storeAll rfl rfl rfl rfl rfl rfl .plain ?_; refine RunK.nil <| LWP.region (by kernel_rfl) <| kmv rfl <| kmv rfl <| kfa rfl rfl ?_; refine kl1 rfl rfl rfl <| K.indexSlc rfl rfl (by omega) hix .plain ?_; refine K.store rfl rfl rfl rfl (by kernel_rfl) hroom hspl .plain <| RunK.nil <| LWP.region (by kernel_rfl) <| kad rfl rfl (wrap_i64 (by omega)) <| kmv rfl <| RunK.nil ?_)
    exact ⟨_, _, by omega, Le.of (by exact ⟨rfl, rfl, rfl, rfl, trivial⟩) (by exact ⟨rfl, trivial⟩) (by exact rfl) (by exact rfl) (by repeat' (first | refine all_cons_true ?_ ?_ | rfl | exact bytes_inUse | exact vals_inUse | exact mid_inUse rfl)), i + 1, by omega, rfl, rfl⟩
  · have e : i = cs.length := by omega
    subst e
    rw [List.take_length, Nat.sub_self, List.replicate_zero, List.append_nil]
    (refine LWP.seq <| LWP.region (by kernel_rfl) <| klt rfl rfl (decide_eq_false (by omega)) <| RunK.nil <| LWP.seq <| LWP.condF rfl ?_; refine LWP.exit <| LWP.seq <| LWP.region (by kernel_rfl) <| kmv rfl <| kas rfl <| RunK.nil <| LWP.ret ?_)
    exact ⟨[(1000001, 9)], ⟨[_], ⟨rfl, trivial⟩, rfl⟩, (by repeat' (first | exact trivial | refine And.intro ⟨_, rfl, ?_⟩ ?_ | refine And.intro ⟨_, rfl⟩ ?_ | rfl | exact Box.ren_bytes _ _ _ _ | exact Box.ren_vals _ _ _ _ | exact Box.ren_mid rfl)), rfl, rfl⟩
end Go.Proofs.Ytjifibloagkeeaa
end
section
namespace Go.Lg.Fld
open Go Go.Lg
theorem rowsZ_app : ∀ {a b : List Cp} {u v : List Value}, u.length = a.length → rowsZ (a ++ b) (u ++ v) = rowsZ a u ++ rowsZ b v
  | [], _, [], _, _ => rfl
  | _ :: a, b, _ :: u, v, h => by
    simp only [List.length_cons] at h
    simp only [List.cons_append, rowsZ]
    rw [rowsZ_app (a := a) (b := b) (u := u) (v := v) (by omega)]
  | [], _, _ :: _, _, h => by simp at h
  | _ :: _, _, [], _, h => by simp at h
theorem joinM_has {C : Ctx} {Y H : Nat → Option Obj} (hO : OwnedM C Y H) {b : Nat} {o : Obj} (h : Y b = some o) : joinM Y H b = some o := by
  cases hb : H b with
  | none => rw [joinM_out hb]; exact h
  | some o' => have := (hO.own b o' hb).2.2; rw [this] at h; cases h
def zer (k : Nat) : List Value := (List.replicate k [Value.int .i64 0, Value.string ⟨#[]⟩, Value.slice none 0 0]).flatten
theorem zer_succ (k : Nat) : zer (k + 1) = [Value.int .i64 0, Value.string ⟨#[]⟩, Value.slice none 0 0] ++ zer k := by unfold zer; rw [List.replicate_succ, List.flatten_cons]
theorem zer_len (k : Nat) : (zer k).length = k * 3 := by
  induction k with
  | zero => rfl
  | succ k ih => rw [zer_succ, List.length_append, ih]; simp; omega
theorem rowsZ_snoc {cs : List Cp} {cells : List Value} {i : Nat} {c : Cp} {v : Value} (hl : cells.length = i) (hc : cs[i]? = some c) : rowsZ (cs.take (i + 1)) (cells ++ [v]) = rowsZ (cs.take i) cells ++ [.int .i64 c.id, .string ⟨c.nm.toArray⟩, v] := by
  rw [take_snoc hc, rowsZ_app (by rw [List.length_take]; have := (List.getElem?_eq_some_iff.1 hc).1; omega)]; rfl
end Go.Lg.Fld
namespace Go.Proofs.Ytjifibloagkeeaa
open Go Go.Lg Go.Lg.Fld
set_option maxRecDepth 100000
section
variable {n : Nat} {C : Ctx} {X : Nat → Option Obj} {s : List (Nat × LV)} {bx : List (Nat × Option Box)} {k : Nat}
theorem sc_shut {Mid : St → Prop} {cs : List Cp} {H : Nat → Option Obj} {cells sp : List Value} (hO : OwnedM C X H) (G : Twigs H 94 3 [] cells (cs.map fun c => flV c.fs)) (hb : InB cs)
    (h : Leads n C Mid ⟨s, scB k cs :: bx, X⟩) : Leads n C Mid ⟨s, (k, some ⟨54, (rowsZ cs cells ++ sp).map .val, false⟩) :: bx, joinM X H⟩ := by
  refine Leads.closeRes (vals := rowsZ cs cells ++ sp) hO (fun ρ fr h1 h2 h3 => ?_) h
  refine ⟨_, fr, cells, sp, withBlock_at _ _ _, ?_, ?_, ?_, hb⟩
  · rw [h3]; simp
  · simp
  · rw [cut_with h1]; exact G
end
variable (X : Nat → Option Obj)
abbrev kcSt (ver : Int) (ad : Option Addr) (n cap i : Nat) (rows : List Value) (Y : Nat → Option Obj) : St :=
  ⟨[(1, Lp 1), (2, Lp 2), (3, .sv (.one (.slc 9 0 n 3))), (11, Lx ad n cap), (12, Ln .i64 (n : Nat)), (13, Ln .i64 (i : Nat))], [(9, some ⟨54, rows.map .val, false⟩), sxB 1 ver ad n cap, (2, some ⟨24, [.val (.int .i64 0), .val (.slice none 0 0)], false⟩)], Y⟩
set_option maxHeartbeats 6400000 in
theorem pCloneBig (ver : Int) (ad : Option Addr) (cap : Nat) (cs : List Cp) (hin : CompsIn X ad cs) (hn : cs.length ≤ 65536) (hfb0 : ∀ c ∈ cs, c.fs.length ≤ 4398046511104) : MSpec Try.prog X 22 [Sx ver ad cs.length cap] [] (.sv (.agg [.val (.int .i64 ver), .slc 1000001 0 cs.length 3])) [scB 1000001 cs] := by
  refine MSpec.intro Try.func22 rfl (by kernel_rfl) rfl rfl (by exact (by repeat' (first | refine all_cons_true ?_ ?_ | rfl | exact bytes_inUse | exact vals_inUse | exact mid_inUse rfl))) rfl rfl ?_
  intro C
  have hInb : InB cs := fun c hc => by
    obtain ⟨i, hi⟩ := List.mem_iff_getElem?.1 hc
    obtain ⟨_, _, _, _, _, _, _, _, _, _, _, _, _, _, hF⟩ := hin.get hi
    exact ⟨hin.small c hc, hF.small⟩
  have hmk : slcBuild Try.prog 22 cs.length = some (zer cs.length, 3, 54) := slcBuild_many (z := #[.int .i64 0, .string ⟨#[]⟩, .slice none 0 0]) (by kernel_rfl) (by kernel_rfl) rfl (by omega)
  refine LWP.ends ?_
  (refine LWP.seq <| LWP.region (by kernel_rfl) <| K.box rfl rfl rfl .plain <| K.alloc rfl .plain ?_; refine RunK.nil <| LWP.seq <| LWP.region (by kernel_rfl) <| kfa rfl rfl ?_; refine kl1 rfl rfl rfl <| K.lenX rfl SliceT.h rfl .plain ?_; refine K.makeSlc (m := cs.length) (bytes := 48) rfl rfl hmk (by kernel_rfl) (by omega) rfl rfl .plain <| kas rfl <| RunK.nil <| LWP.seq <| LWP.seq <| LWP.region (by kernel_rfl) <| kfa rfl rfl ?_; refine kl1 rfl rfl rfl <| K.lenX rfl SliceT.h rfl .plain ?_; refine kmv rfl <| RunK.nil <| LWP.block ?_)
  refine LWP.loopL (fun m σ => ∃ (i : Nat) (cells : List Value) (H : Nat → Option Obj), i ≤ cs.length ∧ m = cs.length - i ∧ OwnedM C X H ∧ Twigs H 94 3 [] cells ((cs.take i).map fun c => flV c.fs) ∧ σ = kcSt ver ad cs.length cap i (rowsZ (cs.take i) cells ++ zer (cs.length - i)) (joinM X H)) cs.length
    (Leads.le (σ' := kcSt ver ad cs.length cap 0 (rowsZ (cs.take 0) [] ++ zer (cs.length - 0)) X) ?_ (Leads.done ⟨0, [], fun _ => none, by omega, by omega, OwnedM.nil _ _, Twigs.nil _ _ _ _, rfl⟩)) ?_
  · exact Le.of (by exact ⟨rfl, rfl, rfl, rfl, rfl, rfl, trivial⟩) (by exact ⟨rfl, rfl, rfl, trivial⟩) (by exact rfl) (by exact rfl) (by repeat' (first | refine all_cons_true ?_ ?_ | rfl | exact bytes_inUse | exact vals_inUse | exact mid_inUse rfl))
  rintro m σ ⟨i, cells, H, hi, rfl, hO, G, rfl⟩
  have hcl : cells.length = i := by rw [G.len, List.length_map, List.length_take]; omega
  by_cases hlt : i < cs.length
  · obtain ⟨c, hc⟩ : ∃ c, cs[i]? = some c := ⟨_, List.getElem?_eq_getElem hlt⟩
    obtain ⟨blk, off, arr, el, fr, fad, fcap, rfl, hX, hsz, hcs, _, _, _, hF⟩ := hin.get hc
    have hio : off + Int.toNat (i : Int) * 3 = off + i * 3 := by simp
    have hix : 0 + Int.toNat (i : Int) * 3 = i * 3 := by rw [Int.toNat_natCast]; omega
    have hX1 : joinM X H blk = some (.cells arr el fr) := joinM_has hO hX
    have hpl : (rowsZ (cs.take i) cells).length = i * 3 := by rw [rowsZ_len (by rw [hcl, List.length_take]; omega), List.length_take, Nat.min_eq_left (by omega)]
    have hFY := hF.mono (Y := joinM X H) fun b o h => joinM_has hO h
    have hfb := hfb0 c (List.mem_of_getElem? hc)
    have hroom : i * 3 + 3 ≤ ((rowsZ (cs.take i) cells ++ zer (cs.length - i)).map CV.val).length := by rw [List.length_map, List.length_append, hpl, zer_len]; omega
    have hspl : ∀ cv : CV, splice ((rowsZ (cs.take i) cells ++ zer (cs.length - i)).map CV.val) (i * 3) [.val (.int .i64 c.id), .val (.string ⟨c.nm.toArray⟩), cv] = (rowsZ (cs.take i) cells ++ [Value.int .i64 c.id, Value.string ⟨c.nm.toArray⟩]).map CV.val ++ cv :: (zer (cs.length - (i + 1))).map .val := fun cv => by
      unfold splice
      rw [show cs.length - i = (cs.length - (i + 1)) + 1 by omega, zer_succ]
      simp only [List.map_append, List.append_assoc]
      have hml : ((rowsZ (cs.take i) cells).map CV.val).length = i * 3 := by rw [List.length_map, hpl]
      generalize (rowsZ (cs.take i) cells).map CV.val = R at *
      rw [← hml, List.take_left, List.drop_length_add_append]
      simp
    cases fad with
    | none =>
      have hf0 := hF.none
      have hq := cclone_nil (joinM X H) c fcap hf0
      have hl0 : c.fs.length = 0 := by rw [hf0]; rfl
      have hm0 : rowsZ (cs.take (i + 1)) (cells ++ [.slice none 0 0]) = rowsZ (cs.take i) cells ++ [.int .i64 c.id, .string ⟨c.nm.toArray⟩, .slice none 0 0] := rowsZ_snoc hcl hc
      (refine LWP.seq <| LWP.region (by kernel_rfl) <| klt rfl rfl (decide_eq_true (by omega)) <| RunK.nil <| LWP.seq <| LWP.condT rfl ?_; refine LWP.skip ?_; refine LWP.seq <| LWP.block <| LWP.seq <| LWP.region (by kernel_rfl) <| kmv rfl <| K.indexX rfl rfl SliceT.h (by omega) hio .plain <| K.loadXagg rfl hX1 (by kernel_rfl) hsz hcs .plain <| K.alloc rfl .plain ?_; refine kas rfl <| K.storeAll rfl rfl rfl rfl rfl rfl .plain ?_; refine RunK.nil <| LWP.region (by kernel_rfl) <| kmv rfl <| kmv rfl <| K.loadAll rfl rfl rfl .plain ?_; refine kca rfl rfl hq <| K.indexSlc rfl rfl (by omega) hix .plain ?_; refine K.store rfl rfl rfl rfl (by kernel_rfl) hroom (hspl (.val (.slice none c.fs.length 0))) .plain <| RunK.nil <| LWP.region (by kernel_rfl) <| kad rfl rfl (wrap_i64 (by omega)) <| kmv rfl <| RunK.nil ?_)
      refine Leads.le (σ' := kcSt ver (some ⟨blk, off, none⟩) cs.length cap (i + 1) (rowsZ (cs.take (i + 1)) (cells ++ [.slice none 0 0]) ++ zer (cs.length - (i + 1))) (joinM X H)) ?_ (Leads.done ⟨cs.length - (i + 1), by omega, i + 1, cells ++ [.slice none 0 0], H, by omega, rfl, hO, ?_, rfl⟩)
      · have hcell : (rowsZ (cs.take i) cells ++ [Value.int .i64 c.id, Value.string ⟨c.nm.toArray⟩]).map CV.val ++ .val (.slice none c.fs.length 0) :: (zer (cs.length - (i + 1))).map .val = (rowsZ (cs.take (i + 1)) (cells ++ [.slice none 0 0]) ++ zer (cs.length - (i + 1))).map .val := by rw [hm0, hl0]; simp
        rw [hcell]
        exact Le.of (by exact ⟨rfl, rfl, rfl, rfl, rfl, rfl, trivial⟩) (by exact ⟨rfl, rfl, rfl, trivial⟩) (by exact rfl) (by exact rfl) (by repeat' (first | refine all_cons_true ?_ ?_ | rfl | exact bytes_inUse | exact vals_inUse | exact mid_inUse rfl))
      · have G2 := G.pushZ none 0
        rw [take_snoc hc, List.map_append, List.map_cons, List.map_nil, show flV c.fs = [] by rw [hf0]; rfl]
        exact G2
    | some fa =>
      have hq := cclone_some (joinM X H) c fa fcap hFY hfb
      (refine LWP.seq <| LWP.region (by kernel_rfl) <| klt rfl rfl (decide_eq_true (by omega)) <| RunK.nil <| LWP.seq <| LWP.condT rfl ?_; refine LWP.skip ?_; refine LWP.seq <| LWP.block <| LWP.seq <| LWP.region (by kernel_rfl) <| kmv rfl <| K.indexX rfl rfl SliceT.h (by omega) hio .plain <| K.loadXagg rfl hX1 (by kernel_rfl) hsz hcs .plain <| K.alloc rfl .plain ?_; refine kas rfl <| K.storeAll rfl rfl rfl rfl rfl rfl .plain ?_; refine RunK.nil <| LWP.region (by kernel_rfl) <| kmv rfl <| kmv rfl <| K.loadAll rfl rfl rfl .plain ?_; refine K.callMp [(1000001, 20)] (.sv (SCs c 20)) [fdB 20 c.fs] (hq) rfl rfl (by exact trivial) rfl rfl rfl rfl rfl (by exact (.box rfl (Box.ren_vals _ _ _ _) .nil)) .plain <| K.indexSlc rfl rfl (by omega) hix .plain ?_; refine K.store rfl rfl rfl rfl (by kernel_rfl) hroom (hspl (.slc 20 0 c.fs.length 3)) .plain <| RunK.nil <| LWP.region (by kernel_rfl) <| kad rfl rfl (wrap_i64 (by omega)) <| kmv rfl <| RunK.nil ?_)
      refine Leads.le (σ' := ⟨[(1, Lp 1), (2, Lp 2), (3, .sv (.one (.slc 9 0 cs.length 3))), (11, Lx (some ⟨blk, off, none⟩) cs.length cap), (12, Ln .i64 (cs.length : Nat)), (13, Ln .i64 (i + 1 : Nat))], [(9, some ⟨54, (rowsZ (cs.take i) cells ++ [Value.int .i64 c.id, Value.string ⟨c.nm.toArray⟩]).map .val ++ .slc 20 0 c.fs.length 3 :: (zer (cs.length - (i + 1))).map .val, false⟩), (20, some ⟨94, (flV c.fs).map .val, true⟩), sxB 1 ver (some ⟨blk, off, none⟩) cs.length cap, (2, some ⟨24, [.val (.int .i64 0), .val (.slice none 0 0)], false⟩)], joinM X H⟩) (Le.of (by exact ⟨rfl, rfl, rfl, rfl, rfl, rfl, trivial⟩) (by exact ⟨rfl, rfl, rfl, rfl, trivial⟩) (by exact rfl) (by exact rfl) (by repeat' (first | refine all_cons_true ?_ ?_ | rfl | exact bytes_inUse | exact vals_inUse | exact mid_inUse rfl))) ?_
      refine Leads.closeCell hO (flV_len _) rfl vals_inUse vals_inUse rfl rfl rfl fun b o v g1 _ hO3 hv => Leads.done ⟨cs.length - (i + 1), by omega, i + 1, cells ++ [v], withBlock H b o, by omega, rfl, hO3, ?_, ?_⟩
      · rw [take_snoc hc, List.map_append, List.map_cons, List.map_nil]
        by_cases hf0 : flV c.fs = []
        · rw [hf0] at hv ⊢
          obtain ⟨len, cap', arr, fr, rfl, h2, _⟩ := hv
          have e0 : len = 0 := by rw [List.length_nil] at h2; omega
          subst e0
          exact (G.more g1).pushZ _ _
        · exact G.push g1 hv hf0
      · rw [rowsZ_snoc hcl hc]
        unfold kcSt
        simp
  · have e : i = cs.length := by omega
    subst e
    rw [List.take_length] at *
    (refine LWP.seq <| LWP.region (by kernel_rfl) <| klt rfl rfl (decide_eq_false (by omega)) <| RunK.nil <| LWP.seq <| LWP.condF rfl ?_; refine LWP.exit <| LWP.seq <| LWP.region (by kernel_rfl) <| kfa rfl rfl ?_; refine kl1 rfl rfl rfl <| kmv rfl <| K.build rfl rfl (by exact rfl) (by exact nl2 rfl rfl rfl) .plain ?_; refine K.storeAll rfl rfl rfl rfl rfl rfl .plain ?_; refine RunK.nil <| LWP.ret ?_)
    refine Leads.le (σ' := ⟨[(2, Lp 2)], [(9, some ⟨54, (rowsZ cs cells ++ []).map .val, false⟩), (2, some ⟨24, [.val (.int .i64 ver), .slc 9 0 cs.length 3], false⟩)], joinM X H⟩) (by rw [Nat.sub_self]; exact Le.of (by exact ⟨rfl, trivial⟩) (by exact ⟨rfl, rfl, trivial⟩) (by exact rfl) (by exact rfl) (by repeat' (first | refine all_cons_true ?_ ?_ | rfl | exact bytes_inUse | exact vals_inUse | exact mid_inUse rfl))) ?_
    refine sc_shut hO G hInb (Leads.done ?_)
    exact ⟨[(1000001, 9)], ⟨[_], ⟨⟨_, _, rfl, rfl, rfl, .inl ⟨AggT.h, rfl⟩⟩, trivial⟩, rfl⟩, (by repeat' (first | exact trivial | refine And.intro ⟨_, rfl, ?_⟩ ?_ | refine And.intro ⟨_, rfl⟩ ?_ | rfl | exact Box.ren_bytes _ _ _ _ | exact Box.ren_vals _ _ _ _ | exact Box.ren_mid rfl)), rfl, rfl⟩
end Go.Proofs.Ytjifibloagkeeaa
end
section

end
section
namespace Go.Proofs.Ytjifibloagkeeaa
open Go Go.Lg Go.Lg.Fld Go.RowKit Go.ChangeShapes Go.WideShapes Go.Joins
set_option maxRecDepth 100000
section
variable {H : Type} {enc : TypeId × Value → H} {w : World}
end
end Go.Proofs.Ytjifibloagkeeaa
end
section
namespace Go.Proofs.Ytjifibloagkeeaa
open Go Go.Lg Go.Lg.Fld
set_option maxRecDepth 100000
variable (X : Nat → Option Obj)
end Go.Proofs.Ytjifibloagkeeaa
end
section
namespace Go.Proofs.Ytjifibloagkeeaa
open Go Go.Lg Go.Lg.Fld
set_option maxRecDepth 100000
theorem rows_in {Y : Nat → Option Obj} {blk : Nat} {arr : Array Value} {el : TypeId} {fr : Nat × Nat} {sz : Nat} {rows : List (List Value)} (hY : Y blk = some (.cells arr el fr)) (hl : ∀ r ∈ rows, r.length = sz) (hsp : ∃ sp, arr.toList = rows.flatten ++ sp) : Go.Lg.RowsIn Y (some ⟨blk, 0, none⟩) sz rows := fun i r hi => by
  obtain ⟨sp, e⟩ := hsp
  obtain ⟨h1, h2⟩ := flat_row hl (sp := sp) hi
  refine ⟨blk, 0, arr, el, fr, rfl, hY, ?_, ?_⟩
  · rw [← Array.length_toList, e]; omega
  · rw [e, Nat.zero_add]; exact h2
variable (X : Nat → Option Obj)
end Go.Proofs.Ytjifibloagkeeaa
end
section
namespace Go.Lg.Fld
open Go Go.Lg
theorem any_at {α : Type} {p : α → Bool} {l : List α} {i : Nat} {x : α} (h : l[i]? = some x) (hp : p x = true) : l.any p = true := List.any_eq_true.2 ⟨x, List.mem_of_getElem? h, hp⟩
theorem any_no {α : Type} {p : α → Bool} {l : List α} (h : ∀ (j : Nat) (y : α), l[j]? = some y → p y = false) : l.any p = false := by
  rw [List.any_eq_false]
  intro y hy
  obtain ⟨j, hj⟩ := List.mem_iff_getElem?.1 hy
  rw [h j y hj]; simp
end Go.Lg.Fld
namespace Go.Proofs.Ytjifibloagkeeaa
open Go Go.Lg Go.Lg.Fld
set_option maxRecDepth 100000
variable (X : Nat → Option Obj)
def cs0 : List Cp := [⟨1, [112, 111, 115], [⟨[120], 3, 1⟩, ⟨[121], 3, 1⟩]⟩, ⟨3, [116, 97, 103], []⟩]
end Go.Proofs.Ytjifibloagkeeaa
end
section
namespace Go.Proofs.Ytjifibloagkeeaa
open Go Go.Lg Go.Lg.Fld
set_option maxRecDepth 100000
variable (X : Nat → Option Obj)
end Go.Proofs.Ytjifibloagkeeaa
end
section
namespace Go.Lg.Fld
open Go Go.Lg
def Scan {α : Type} (p : α → Bool) (l : List α) (k : Nat) (v : Int) : Prop := (v = -1 ∧ ∀ (m : Nat) (y : α), k ≤ m → l[m]? = some y → p y = false) ∨ ∃ (i : Nat) (c : α), v = (i : Nat) ∧ l[i]? = some c ∧ p c = true ∧ ∀ (m : Nat) (y : α), k ≤ m → m < i → l[m]? = some y → p y = false
theorem Scan.hit {α : Type} {p : α → Bool} {l : List α} {k : Nat} {y : α} (hy : l[k]? = some y) (hp : p y = true) : Scan p l k (k : Nat) := .inr ⟨k, y, rfl, hy, hp, fun m y hm hk => by omega⟩
end Go.Lg.Fld
namespace Go.Proofs.Ytjifibloagkeeaa
open Go Go.Lg Go.Lg.Fld
set_option maxRecDepth 100000
variable (X : Nat → Option Obj)
end Go.Proofs.Ytjifibloagkeeaa
end
section
namespace Go.Proofs.Ytjifibloagkeeaa
open Go Go.Lg Go.Lg.Fld
set_option maxRecDepth 100000
variable (X : Nat → Option Obj)
end Go.Proofs.Ytjifibloagkeeaa
end
section
namespace Go.Lg.Fld
open Go Go.Lg
structure Good (cs : List Cp) : Prop where
  one : ∀ (i : Nat) (c : Cp), cs[i]? = some c → 1 ≤ c.id ∧ c.id ≤ 24 ∧ nmB c.nm = true ∧ firstE (fldE c.fs) 0 c.fs.length = 0 ∧ layErr c.fs = 0
  two : ∀ (i j : Nat) (c d : Cp), i < j → cs[i]? = some c → cs[j]? = some d → c.id < d.id ∧ c.nm ≠ d.nm
theorem good_of {cs : List Cp} (h : firstE (cmpE cs) 0 cs.length = 0) : Good cs := by
  have h0 : ∀ (i : Nat) (c : Cp), cs[i]? = some c → ¬(c.id < 1 ∨ 24 < c.id ∨ (0 < i ∧ c.id ≤ prevId cs i)) ∧ nmB c.nm = true ∧ (cs.take i).any (fun g => g.nm == c.nm) = false ∧ firstE (fldE c.fs) 0 c.fs.length = 0 ∧ layErr c.fs = 0 := fun i c hc => by
    have hi := (List.getElem?_eq_some_iff.1 hc).1
    have h1 := firstE_zero h i (Nat.zero_le _) (by omega)
    rw [cmpE_at hc] at h1
    by_cases b1 : c.id < 1 ∨ 24 < c.id ∨ (0 < i ∧ c.id ≤ prevId cs i)
    · rw [if_pos b1] at h1; cases h1
    · rw [if_neg b1] at h1
      by_cases b2 : nmB c.nm = true
      · rw [if_pos b2] at h1
        by_cases b3 : (cs.take i).any (fun g => g.nm == c.nm) = true
        · rw [if_pos b3] at h1; cases h1
        · rw [if_neg b3] at h1
          by_cases b4 : firstE (fldE c.fs) 0 c.fs.length = 0
          · rw [if_pos b4] at h1
            exact ⟨b1, b2, by simpa using b3, b4, h1⟩
          · rw [if_neg b4] at h1; cases h1
      · rw [if_neg b2] at h1; cases h1
  refine ⟨fun i c hc => ?_, fun i j c d hij hc hd => ⟨?_, fun e => ?_⟩⟩
  · obtain ⟨h1, h2, _, h4, h5⟩ := h0 i c hc
    exact ⟨by omega, by omega, h2, h4, h5⟩
  · obtain ⟨k, rfl⟩ : ∃ k, j = i + 1 + k := ⟨j - (i + 1), by omega⟩
    induction k generalizing d with
    | zero =>
      obtain ⟨h1, _⟩ := h0 _ d hd
      have hp : cs[i + 1 + 0 - 1]? = some c := hc
      have := prev_at hp
      omega
    | succ k ih =>
      obtain ⟨d', hd'⟩ : ∃ d', cs[i + 1 + k]? = some d' := ⟨_, List.getElem?_eq_getElem (by have := (List.getElem?_eq_some_iff.1 hd).1; omega)⟩
      have h2 := ih d' (by omega) hd'
      obtain ⟨h1, _⟩ := h0 _ d hd
      have hp : cs[i + 1 + (k + 1) - 1]? = some d' := hd'
      have := prev_at hp
      omega
  · obtain ⟨_, _, h3, _⟩ := h0 j d hd
    have := any_true (p := fun g : Cp => g.nm == d.nm) hij hc (by rw [beq_iff_eq]; exact e)
    rw [h3] at this; cases this
end Go.Lg.Fld
end
section
namespace Go.Lg.Fld
open Go Go.Lg
theorem fields_apart {fs : List Fl} (h : firstE (fldE fs) 0 fs.length = 0) {i j : Nat} {f g : Fl} (hij : i < j) (hf : fs[i]? = some f) (hg : fs[j]? = some g) : f.nm ≠ g.nm := fun e => by
  have h1 := firstE_zero h j (Nat.zero_le _) (by have := (List.getElem?_eq_some_iff.1 hg).1; omega)
  rw [fldE_at hg] at h1
  have := any_true (p := fun x : Fl => x.nm == g.nm) hij hf (by rw [beq_iff_eq]; exact e)
  rw [this] at h1
  split at h1 <;> cases h1
end Go.Lg.Fld
end
section
namespace Go.Lg.Fld
open Go Go.Lg
end Go.Lg.Fld
end
section
namespace Go.Lg.Fld
open Go Go.Lg
end Go.Lg.Fld
namespace Go.Proofs.Ytjifibloagkeeaa
open Go Go.Lg Go.Lg.Fld
set_option maxRecDepth 100000
variable (X : Nat → Option Obj)
end Go.Proofs.Ytjifibloagkeeaa
end
section
namespace Go.Proofs.Ytjifibloagkeeaa
open Go Go.Lg Go.Lg.Fld
set_option maxRecDepth 100000
variable (X : Nat → Option Obj)
end Go.Proofs.Ytjifibloagkeeaa
end
section
namespace Go.Proofs.Ytjifibloagkeeaa
open Go Go.Lg Go.Lg.Fld
set_option maxRecDepth 100000
variable (X : Nat → Option Obj)
end Go.Proofs.Ytjifibloagkeeaa
end
section
namespace Go.Lg.Fld
open Go Go.Lg
end Go.Lg.Fld
namespace Go.Proofs.Ytjifibloagkeeaa
open Go Go.Lg Go.Lg.Fld
set_option maxRecDepth 100000
section
variable {P : Program} {n : Nat} {C : Ctx} {c : Code} {Q : Exit → St → Prop} {X : Nat → Option Obj} {s : List (Nat × LV)} {bx : List (Nat × Option Box)} {k j : Nat}
end
end Go.Proofs.Ytjifibloagkeeaa
end
section
namespace Go.Lg.Fld
open Go Go.Lg
end Go.Lg.Fld
namespace Go.Proofs.Ytjifibloagkeeaa
open Go Go.Lg Go.Lg.Fld
set_option maxRecDepth 100000
variable (X : Nat → Option Obj)
end Go.Proofs.Ytjifibloagkeeaa
end
section
namespace Go.Lg.Fld
open Go Go.Lg
def Less (x y : List UInt8 × Bool) : Prop := y.1.length ≤ x.1.length ∧ (x.2 = true → y.2 = true)
theorem Less.trans {x y z : List UInt8 × Bool} (h : Less x y) (h' : Less y z) : Less x z := ⟨Nat.le_trans h'.1 h.1, fun e => h'.2 (h.2 e)⟩
end Go.Lg.Fld
namespace Go.Proofs.Ytjifibloagkeeaa
open Go Go.Lg Go.Lg.Fld
set_option maxRecDepth 100000
variable (X : Nat → Option Obj)
end Go.Proofs.Ytjifibloagkeeaa
end
section
namespace Go.Proofs.Ytjifibloagkeeaa
open Go Go.Lg Go.Lg.Fld
set_option maxRecDepth 100000
variable (X : Nat → Option Obj)
end Go.Proofs.Ytjifibloagkeeaa
end
section
namespace Go.Lg.Fld
open Go Go.Lg
def SmallC8 (cs : List Cp) : Prop := cs.length ≤ 30 ∧ ∀ c ∈ cs, c.fs.length ≤ 12 ∧ c.nm.length ≤ 300 ∧ ∀ f ∈ c.fs, f.nm.length ≤ 300
theorem SmallC8.names {cs : List Cp} (h : SmallC8 cs) : NamesC cs := fun c hc => by
  obtain ⟨h1, h2, h3⟩ := h.2 c hc
  exact ⟨by omega, by omega, fun f hf => by have := h3 f hf; omega⟩
end Go.Lg.Fld
namespace Go.Proofs.Ytjifibloagkeeaa
open Go Go.Lg Go.Lg.Fld
set_option maxRecDepth 100000
variable (X : Nat → Option Obj)
end Go.Proofs.Ytjifibloagkeeaa
end
section
namespace Go.Lg.Fld
open Go Go.Lg
end Go.Lg.Fld
namespace Go.Proofs.Ytjifibloagkeeaa
open Go Go.Lg Go.Lg.Fld
set_option maxRecDepth 100000
variable (X : Nat → Option Obj)
section
variable {P : Program} {Q : Exit → St → Prop} {c : Code} {n : Nat} {C : Ctx} {X : Nat → Option Obj} {s : List (Nat × LV)} {bx : List (Nat × Option Box)} {k : Nat}
end
end Go.Proofs.Ytjifibloagkeeaa
end
section
namespace Go.Proofs.Ytjifibloagkeeaa
open Go Go.Lg
variable (X : Nat → Option Obj)
end Go.Proofs.Ytjifibloagkeeaa
end
section
namespace Go.Lg.Fld
open Go Go.Lg
end Go.Lg.Fld
namespace Go.Proofs.Ytjifibloagkeeaa
open Go Go.Lg Go.Lg.Fld
set_option maxRecDepth 100000
variable (X : Nat → Option Obj)
end Go.Proofs.Ytjifibloagkeeaa
end
section
namespace Go.Proofs.Ytjifibloagkeeaa
open Go Go.Lg Go.Lg.Fld
set_option maxRecDepth 100000
variable (X : Nat → Option Obj)
end Go.Proofs.Ytjifibloagkeeaa
end
section
namespace Go.Proofs.Ytjifibloagkeeaa
open Go Go.Lg Go.Lg.Fld
set_option maxRecDepth 100000
abbrev Ext (X Y : Nat → Option Obj) : Prop := ∀ b o, X b = some o → Y b = some o
theorem OneIn.more {X Y : Nat → Option Obj} (hXY : Ext X Y) {ad : Option Addr} {vs : List Value} (h : OneIn X ad vs) : OneIn Y ad vs := fun i v hi => by
  obtain ⟨blk, off, arr, el, fr, h1, h2, h3⟩ := h i v hi
  exact ⟨blk, off, arr, el, fr, h1, hXY _ _ h2, h3⟩
theorem row_cell {arr : Array Value} {p sz : Nat} {r : List Value} (h : (arr.toList.drop p).take sz = r) {j : Nat} (hj : j < sz) : arr[p + j]? = r[j]? := by
  rw [← h, List.getElem?_take, if_pos hj, List.getElem?_drop, Array.getElem?_toList]
variable (X : Nat → Option Obj)
end Go.Proofs.Ytjifibloagkeeaa
end
section
namespace Go.Proofs.Ytjifibloagkeeaa
open Go Go.Lg Go.Lg.Fld
set_option maxRecDepth 100000
variable (X : Nat → Option Obj)
end Go.Proofs.Ytjifibloagkeeaa
end
section
namespace Go.Proofs.Ytjifibloagkeeaa
open Go Go.Lg Go.Lg.Fld
set_option maxRecDepth 100000
theorem packB_len {fs : List Fl} (h : fs.all Fl.ok = true) (ns : List (Bool × Int)) : (packB fs ns).length = rowSize fs := packE_len (within_row h) (by rw [List.length_replicate])
variable (X : Nat → Option Obj)
end Go.Proofs.Ytjifibloagkeeaa
end
section
namespace Go.Proofs.Ytjifibloagkeeaa
open Go Go.Lg Go.Lg.Fld
set_option maxRecDepth 100000
def fsAt (cs : List Cp) (id : Int) : List Fl := match cs.find? (fun c => c.id == id) with | some c => c.fs | none => []
theorem partE_find {cs : List Cp} {p : Pt} (h : partE cs p = 0) : ∃ c, cs.find? (fun c => c.id == p.comp) = some c ∧ fitErr c.fs p.val = 0 := by
  unfold partE at h
  cases hf : cs.find? (fun c => c.id == p.comp) with
  | none => rw [hf] at h; cases h
  | some c => rw [hf] at h; exact ⟨c, rfl, h⟩
end Go.Proofs.Ytjifibloagkeeaa
end
section
namespace Go.Lg.Sg
open Go Go.Lg
def nuV (l : List Int) : List Value := l.map (Value.int .i64 ·)
def NuIn (X : Nat → Option Obj) (ad : Option Addr) (l : List Int) : Prop := RowsIn X ad 1 (l.map fun n => [.int .i64 n])
theorem NuIn.at {X : Nat → Option Obj} {ad : Option Addr} {l : List Int} (h : NuIn X ad l) {i : Nat} {x : Int} (hx : l[i]? = some x) : ∃ (blk off : Nat) (arr : Array Value) (el : TypeId) (fr : Nat × Nat), ad = some ⟨blk, off, none⟩ ∧ X blk = some (.cells arr el fr) ∧ arr[off + i * 1]? = some (.int .i64 x) := by
  obtain ⟨blk, off, arr, el, fr, h1, h2, h3, h4⟩ := h i [.int .i64 x] (by rw [List.getElem?_map, hx]; rfl)
  refine ⟨blk, off, arr, el, fr, h1, h2, ?_⟩
  have := congrArg (fun l : List Value => l[0]?) h4
  simpa [List.getElem?_take, List.getElem?_drop] using this
theorem NuIn.mono {X Y : Nat → Option Obj} {ad : Option Addr} {l : List Int} (h : NuIn X ad l) (hm : ∀ b o, X b = some o → Y b = some o) : NuIn Y ad l := RowsIn.mono h hm
theorem nu_flat (l : List Int) : (l.map fun n => [Value.int .i64 n]).flatten = nuV l := by
  unfold nuV
  induction l with
  | nil => rfl
  | cons x t ih => rw [List.map_cons, List.flatten_cons, ih]; rfl
end Go.Lg.Sg
end
section
namespace Go.Lg.Fld
open Go Go.Lg
structure Ch where
  kind : Int
  comp : Int
  fld : List UInt8
instance : DecidableEq Ch := fun a b => decidable_of_iff (a.kind = b.kind ∧ a.comp = b.comp ∧ a.fld = b.fld) ⟨fun ⟨h1, h2, h3⟩ => by cases a; cases b; simp_all, fun h => by rw [h]; exact ⟨rfl, rfl, rfl⟩⟩
def fldAt (fs : List Fl) (nm : List UInt8) : Option Fl := fs.find? fun f => f.nm == nm
def fldIx (fs : List Fl) (nm : List UInt8) : Int := findI (fun f => f.nm == nm) fs
theorem fldIx_some {fs : List Fl} {nm : List UInt8} (h : 0 ≤ fldIx fs nm) : ∃ (k : Nat) (g : Fl), fs[k]? = some g ∧ g.nm = nm ∧ fldIx fs nm = (k : Nat) ∧ fldAt fs nm = some g ∧ ∀ (j : Nat) (y : Fl), j < k → fs[j]? = some y → y.nm ≠ nm := by
  unfold fldIx findI at h
  cases hf : fs.findIdx? (fun f => f.nm == nm) with
  | none => rw [hf] at h; simp only at h; omega
  | some k =>
    obtain ⟨hk, h1, h2⟩ := List.findIdx?_eq_some_iff_getElem.1 hf
    refine ⟨k, fs[k], List.getElem?_eq_getElem hk, by simpa using h1, by unfold fldIx findI; rw [hf], ?_, fun j y hj hy => ?_⟩
    · unfold fldAt
      rw [List.find?_eq_some_iff_getElem]
      exact ⟨h1, k, hk, rfl, fun j hj => by simpa using h2 j hj⟩
    · obtain ⟨hj', e⟩ := List.getElem?_eq_some_iff.1 hy
      have := h2 j hj
      rw [e] at this
      simpa using this
theorem fldIx_none {fs : List Fl} {nm : List UInt8} (h : fldIx fs nm < 0) : (∀ f ∈ fs, f.nm ≠ nm) ∧ fldAt fs nm = none ∧ fldIx fs nm = -1 := by
  unfold fldIx findI at h
  cases hf : fs.findIdx? (fun f => f.nm == nm) with
  | some k => rw [hf] at h; simp only at h; omega
  | none =>
    have h1 := List.findIdx?_eq_none_iff.1 hf
    refine ⟨fun f hf => by simpa using h1 f hf, ?_, by unfold fldIx findI; rw [hf]⟩
    unfold fldAt
    rw [List.find?_eq_none]
    intro f hf
    simpa using h1 f hf
theorem fldIx_at {fs : List Fl} (ha : ∀ (i j : Nat) (f g : Fl), i < j → fs[i]? = some f → fs[j]? = some g → f.nm ≠ g.nm) {k : Nat} {g : Fl} (hk : fs[k]? = some g) : fldIx fs g.nm = (k : Nat) ∧ fldAt fs g.nm = some g := by
  have h0 : 0 ≤ fldIx fs g.nm := by
    rcases Int.lt_or_le (fldIx fs g.nm) 0 with h | h
    · exact absurd rfl ((fldIx_none h).1 g (List.mem_of_getElem? hk))
    · exact h
  obtain ⟨j, f, hj, hn, he, hf, hp⟩ := fldIx_some h0
  have : j = k := by
    rcases Nat.lt_trichotomy j k with h | h | h
    · exact absurd hn (ha j k f g h hj hk)
    · exact h
    · exact absurd rfl (hp k g h hk)
  subst this
  rw [hk] at hj
  cases hj
  exact ⟨he, hf⟩
end Go.Lg.Fld
end
