/- A piece of a proof over this program: contracts of its functions, and a logic to prove them by. -/
import Derived.Test.YtjifibloagkeeaaP2
import Derived.Test.YtjifibloagkeeaaP3
import Derived.Test.YtjifibloagkeeaaP4
import Derived.Lib.ItoaLen
import Derived.Laws.BitsAllLaws
import Derived.Lib.Join
import Derived.Lib.IndexLaws
section
namespace Go.Lg.Fld
open Go Go.Lg
def Apart (fs : List Fl) : Prop := fs.Pairwise fun f g => f.nm ≠ g.nm
theorem Apart.ix {fs : List Fl} (h : Apart fs) {i j : Nat} {f g : Fl} (hij : i < j) (hf : fs[i]? = some f) (hg : fs[j]? = some g) : f.nm ≠ g.nm := by
  obtain ⟨hi, e1⟩ := List.getElem?_eq_some_iff.1 hf
  obtain ⟨hj, e2⟩ := List.getElem?_eq_some_iff.1 hg
  have := List.pairwise_iff_getElem.1 h i j hi hj hij
  rw [e1, e2] at this
  exact this
theorem Apart.at {fs : List Fl} (h : Apart fs) {k : Nat} {g : Fl} (hk : fs[k]? = some g) : fldIx fs g.nm = (k : Nat) ∧ fldAt fs g.nm = some g := fldIx_at (fun _ _ _ _ hij hf hg => h.ix hij hf hg) hk
theorem Apart.mem {fs : List Fl} (h : Apart fs) {g : Fl} (hg : g ∈ fs) : fldAt fs g.nm = some g := by
  obtain ⟨k, hk⟩ := List.mem_iff_getElem?.1 hg
  exact (h.at hk).2
theorem Apart.eq {fs : List Fl} (h : Apart fs) {f g : Fl} (hf : f ∈ fs) (hg : g ∈ fs) (e : f.nm = g.nm) : f = g := by
  have h1 := h.mem hf
  rw [e, h.mem hg] at h1
  exact (Option.some.inj h1).symm
theorem Good.apart {cs : List Cp} (h : Good cs) {c : Cp} (hc : c ∈ cs) : Apart c.fs := by
  obtain ⟨i, hi⟩ := List.mem_iff_getElem?.1 hc
  obtain ⟨_, _, _, h4, _⟩ := h.one i c hi
  refine List.pairwise_iff_getElem.2 fun i j hi hj hij => ?_
  exact fields_apart h4 hij (List.getElem?_eq_getElem hi) (List.getElem?_eq_getElem hj)
theorem Good.ids {cs : List Cp} (h : Good cs) {c : Cp} (hc : c ∈ cs) : 1 ≤ c.id ∧ c.id ≤ 24 := by
  obtain ⟨i, hi⟩ := List.mem_iff_getElem?.1 hc
  obtain ⟨h1, h2, _⟩ := h.one i c hi
  exact ⟨h1, h2⟩
theorem Good.sorted {cs : List Cp} (h : Good cs) : cs.Pairwise fun x y => x.id < y.id :=
  List.pairwise_iff_getElem.2 fun i j hi hj hij => (h.two i j _ _ hij (List.getElem?_eq_getElem hi) (List.getElem?_eq_getElem hj)).1
end Go.Lg.Fld
end
section
namespace Go.Lg.Fld
open Go Go.Lg
end Go.Lg.Fld
end
section
namespace Go.Lg
open Go Go.RowKit
section
variable {P : Program} {n : Nat} {ops os : List Oper} {acc : List Eff} {K : List Eff → St → Prop} {s : List (Nat × LV)} {bx : List (Nat × Option Box)} {X : Nat → Option Obj} {σ : St}
end
section
variable {P : Program} {n : Nat} {C : Ctx} {c : Code} {Q : Exit → St → Prop} {X : Nat → Option Obj}
end
end Go.Lg
end
section
namespace Go.Lg.Fld
open Go Go.Lg
def Ch.vals (x : Ch) : List Value := [.int .i64 x.kind, .int .i64 x.comp, .string ⟨x.fld.toArray⟩]
end Go.Lg.Fld
namespace Go.Proofs.Ytjifibloagkeeaa
open Go Go.Lg Go.Lg.Fld
set_option maxRecDepth 100000
variable (X : Nat → Option Obj)
end Go.Proofs.Ytjifibloagkeeaa
end
section
namespace Go.Proofs.Ytjifibloagkeeaa
open Go Go.Lg Go.Lg.Fld
set_option maxRecDepth 100000
variable (X : Nat → Option Obj)
end Go.Proofs.Ytjifibloagkeeaa
end
section
namespace Go.Lg.Fld
open Go Go.Lg
end Go.Lg.Fld
namespace Go.Proofs.Ytjifibloagkeeaa
open Go Go.Lg Go.Lg.Fld
set_option maxRecDepth 100000
variable (X : Nat → Option Obj)
end Go.Proofs.Ytjifibloagkeeaa
end
section
namespace Go.Lg.Fld
open Go Go.Lg
end Go.Lg.Fld
namespace Go.Proofs.Ytjifibloagkeeaa
open Go Go.Lg Go.Lg.Fld
set_option maxRecDepth 100000
variable (X : Nat → Option Obj)
end Go.Proofs.Ytjifibloagkeeaa
end
section
namespace Go.Lg.Sg
open Go Go.Lg
def idsTo (a n : Nat) : List Int := ((List.range n).filter fun i => a.testBit (i + 1)).map fun i => ((i + 1 : Nat) : Int)
def idsL (a : Nat) : List Int := idsTo a 24
theorem idsTo_len (a n : Nat) : (idsTo a n).length ≤ n := by
  unfold idsTo
  rw [List.length_map]
  exact Nat.le_trans (List.length_filter_le _ _) (by rw [List.length_range]; exact Nat.le_refl _)
def okJ (id : Int) : Bool := decide (1 ≤ id) && decide (id ≤ 24)
theorem okI_iff {id : Int} : okJ id = true ↔ 1 ≤ id ∧ id ≤ 24 := by unfold okJ; simp
def hasB (a : Nat) (id : Int) : Bool := okJ id && a.testBit id.toNat
theorem mem_ids {a n : Nat} {id : Int} : id ∈ idsTo a n ↔ 1 ≤ id ∧ id ≤ n ∧ a.testBit id.toNat = true := by
  unfold idsTo
  rw [List.mem_map]
  constructor
  · rintro ⟨i, hi, rfl⟩
    obtain ⟨h1, h2⟩ := List.mem_filter.1 hi
    have := List.mem_range.1 h1
    exact ⟨by omega, by omega, by rw [show ((i + 1 : Nat) : Int).toNat = i + 1 from rfl]; exact h2⟩
  · rintro ⟨h1, h2, h3⟩
    refine ⟨id.toNat - 1, List.mem_filter.2 ⟨List.mem_range.2 (by omega), ?_⟩, by omega⟩
    rw [show id.toNat - 1 + 1 = id.toNat by omega]
    exact h3
theorem any_ids {a : Nat} {id : Int} : (idsL a).any (fun x => x == id) = hasB a id := by
  rw [Bool.eq_iff_iff, List.any_eq_true]
  unfold hasB
  rw [Bool.and_eq_true, okI_iff]
  constructor
  · rintro ⟨x, hx, he⟩
    rw [beq_iff_eq.1 he] at hx
    obtain ⟨h1, h2, h3⟩ := mem_ids.1 hx
    exact ⟨⟨h1, h2⟩, h3⟩
  · rintro ⟨⟨h1, h2⟩, h3⟩
    exact ⟨id, mem_ids.2 ⟨h1, h2, h3⟩, beq_iff_eq.2 rfl⟩
def badI (i : Nat) : Bool := decide (i < 1) || decide (24 < i)
def isB (a : Nat) : Bool := (List.range 32).all fun i => !(a.testBit i && badI i)
theorem isB_iff {a : Nat} : isB a = true ↔ ∀ i, i < 32 → a.testBit i = true → 1 ≤ i ∧ i ≤ 24 := by
  unfold isB badI
  rw [List.all_eq_true]
  constructor
  · intro h i hi hb
    have := h i (List.mem_range.2 hi)
    rw [hb] at this
    simp at this
    omega
  · intro h i hi
    have hi := List.mem_range.1 hi
    cases hb : a.testBit i with
    | false => rfl
    | true =>
      obtain ⟨h1, h2⟩ := h i hi hb
      rw [decide_eq_false (by omega), decide_eq_false (by omega)]
      rfl
end Go.Lg.Sg
namespace Go.Proofs.Ytjifibloagkeeaa
open Go Go.Lg Go.Lg.Fld Go.Lg.Sg
set_option maxRecDepth 100000
variable (X : Nat → Option Obj)
end Go.Proofs.Ytjifibloagkeeaa
end
section
namespace Go.Lg.Sg
open Go Go.Lg
def txStep (s : List UInt8 × Bool) (x : Int) : List UInt8 × Bool := (s.1 ++ (if s.2 = true then [43] else []) ++ Lib.itoa x, true)
def txF (l : List Int) : List UInt8 × Bool := l.foldl txStep ([], false)
theorem txF_flag (l : List Int) : (txF l).2 = !l.isEmpty := by
  unfold txF
  suffices h : ∀ (l : List Int) (s : List UInt8 × Bool), (l.foldl txStep s).2 = (s.2 || !l.isEmpty) by rw [h]; rfl
  intro l
  induction l with
  | nil => intro s; simp
  | cons x t ih => intro s; rw [List.foldl_cons, ih]; simp [txStep]
def ofN (ids : List Int) : Nat := ids.foldl (fun n id => n ||| 2 ^ id.toNat) 0
theorem ofN_bit (ids : List Int) (j : Nat) : (ofN ids).testBit j = ids.any fun id => id.toNat == j := by
  unfold ofN
  suffices H : ∀ (l : List Int) (n : Nat), (l.foldl (fun n id => n ||| 2 ^ id.toNat) n).testBit j = (n.testBit j || l.any fun id => id.toNat == j) by
    rw [H, Nat.zero_testBit, Bool.false_or]
  intro l
  induction l with
  | nil => intro n; simp
  | cons x t ih =>
    intro n
    rw [List.foldl_cons, ih, Nat.testBit_or, Nat.testBit_two_pow, List.any_cons, Bool.or_assoc]
    congr 2
theorem ofN_lt {ids : List Int} (h : ∀ id ∈ ids, okJ id = true) : ofN ids < 33554432 := by
  refine Nat.lt_pow_two_of_testBit (n := 25) _ fun i hi => ?_
  rw [ofN_bit, List.any_eq_false]
  intro id hid e
  have := okI_iff.1 (h id hid)
  have := beq_iff_eq.1 e
  omega
def okIds (ids : List Int) : Bool := ids.all okJ
def ofA (ids : List Int) : Nat := if okIds ids = true then ofN ids else 0
end Go.Lg.Sg
namespace Go.Proofs.Ytjifibloagkeeaa
open Go Go.Lg Go.Lg.Fld Go.Lg.Sg
set_option maxRecDepth 100000
variable (X : Nat → Option Obj)
end Go.Proofs.Ytjifibloagkeeaa
end
section
namespace Go.Proofs.Ytjifibloagkeeaa
open Go Go.Lg Go.Lg.Fld Go.Lg.Sg
set_option maxRecDepth 100000
structure Rw where
  e : Nat
  p : List Pt
structure Tb where
  sc : Sc
  set : Nat
  most : Nat
  kept : Nat
  l : List Rw
def hasC (cs : List Cp) (id : Int) : Bool := cs.any fun c => c.id == id
def goodT (s : Sc) (set : Nat) (most : Int) : Bool := decide (chkE s = 0) && isB set && decide (1 ≤ most) && decide (most ≤ 256) && (idsL set).all (hasC s.cs)
def roomT (t : Tb) : Nat := t.most - t.l.length - t.kept
def hitsP (l : List Pt) (id : Int) : List Pt := l.filter fun p => p.comp == id
def justP (ids : List Int) (l : List Pt) : Bool := decide (l.length = ids.length) && ids.all fun id => decide ((hitsP l id).length = 1)
def sortP (ids : List Int) (l : List Pt) : List Pt := (ids.map (hitsP l)).flatten
def addE (t : Tb) (e : Nat) (l : List Pt) : Int :=
  if e = 0 then 1 else if justP (idsL t.set) l = true then (if partsE t.sc.cs l = 0 then (if roomT t = 0 then 5 else 0) else partsE t.sc.cs l) else 4
def addT (t : Tb) (e : Nat) (l : List Pt) : Tb := { t with l := t.l ++ [⟨e, sortP (idsL t.set) l⟩] }
def dropL {α : Type} (l : List α) (i : Nat) : List α := match l[l.length - 1]? with | some x => (l.set i x).take (l.length - 1) | none => l
def dropT (t : Tb) (i : Nat) : Tb := { t with l := dropL t.l i }
structure RwOk (cs : List Cp) (set : Nat) (r : Rw) : Prop where
  e : 1 ≤ r.e ∧ r.e < 18446744073709551616
  ids : r.p.map Pt.comp = idsL set
  fit : ∀ p ∈ r.p, fitErr (fsAt cs p.comp) p.val = 0
structure TbOk (t : Tb) : Prop where
  sc : chkE t.sc = 0
  set : t.set < 4294967296 ∧ isB t.set = true
  has : ∀ id ∈ idsL t.set, hasC t.sc.cs id = true
  most : 1 ≤ t.most ∧ t.most ≤ 256
  room : t.l.length + t.kept ≤ t.most
  rows : ∀ r ∈ t.l, RwOk t.sc.cs t.set r
end Go.Proofs.Ytjifibloagkeeaa
end
section
namespace Go.Proofs.Ytjifibloagkeeaa
open Go Go.Lg Go.Lg.Fld Go.Lg.Sg
set_option maxRecDepth 100000
theorem hits_one {l : List Pt} {id : Int} (h : (hitsP l id).length = 1) : ∃ p, hitsP l id = [p] ∧ p ∈ l ∧ p.comp = id := by
  obtain ⟨p, hp⟩ := List.length_eq_one_iff.1 h
  have hm : p ∈ hitsP l id := by rw [hp]; exact List.mem_singleton.2 rfl
  unfold hitsP at hm
  rw [List.mem_filter, beq_iff_eq] at hm
  exact ⟨p, hp, hm.1, hm.2⟩
theorem sort_comps {l : List Pt} : ∀ {ids : List Int}, (∀ id ∈ ids, (hitsP l id).length = 1) → (sortP ids l).map Pt.comp = ids
  | [], _ => rfl
  | id :: ids, h => by
    obtain ⟨p, hp, _, hc⟩ := hits_one (h id (List.mem_cons_self ..))
    have ih := sort_comps (l := l) (ids := ids) fun x hx => h x (List.mem_cons_of_mem _ hx)
    unfold sortP at ih ⊢
    rw [List.map_cons, List.flatten_cons, List.map_append, ih, hp, List.map_cons, hc]; rfl
theorem sort_mem {ids : List Int} {l : List Pt} {p : Pt} (h : p ∈ sortP ids l) : p ∈ l := by
  unfold sortP at h
  obtain ⟨x, hx, hp⟩ := List.mem_flatten.1 h
  obtain ⟨id, _, rfl⟩ := List.mem_map.1 hx
  exact (List.mem_filter.1 hp).1
theorem just_iff {ids : List Int} {l : List Pt} : justP ids l = true ↔ l.length = ids.length ∧ ∀ id ∈ ids, (hitsP l id).length = 1 := by
  unfold justP
  rw [Bool.and_eq_true, decide_eq_true_iff, List.all_eq_true]
  exact and_congr_right fun _ => forall_congr' fun x => by rw [decide_eq_true_iff]
theorem parts_zero {cs : List Cp} {ps : List Pt} (h : partsE cs ps = 0) : ∀ p ∈ ps, partE cs p = 0 := fun p hp => by
  obtain ⟨i, hi, rfl⟩ := List.getElem_of_mem hp
  have h1 := firstE_zero h i (Nat.zero_le _) (by omega)
  rw [ptE_at (List.getElem?_eq_getElem hi)] at h1
  by_cases c : (ps.take i).any (fun g => g.comp == ps[i].comp) = true
  · rw [if_pos c] at h1; cases h1
  · rw [if_neg c] at h1; exact h1
theorem part_fits {cs : List Cp} {p : Pt} (h : partE cs p = 0) : fitErr (fsAt cs p.comp) p.val = 0 := by
  obtain ⟨c, hc, hf⟩ := partE_find h
  unfold fsAt; rw [hc]; exact hf
theorem ids_le (a : Nat) : (idsL a).length ≤ 24 := idsTo_len a 24
theorem TbOk.add {t : Tb} (h : TbOk t) {e : Nat} {l : List Pt} (he : e < 18446744073709551616) (ha : addE t e l = 0) : TbOk (addT t e l) ∧ justP (idsL t.set) l = true ∧ partsE t.sc.cs l = 0 ∧ e ≠ 0 ∧ roomT t ≠ 0 := by
  unfold addE at ha
  by_cases c1 : e = 0
  · rw [if_pos c1] at ha; cases ha
  rw [if_neg c1] at ha
  by_cases c2 : justP (idsL t.set) l = true
  case neg => rw [if_neg c2] at ha; cases ha
  rw [if_pos c2] at ha
  by_cases c3 : partsE t.sc.cs l = 0
  case neg => rw [if_neg c3] at ha; exact absurd ha c3
  rw [if_pos c3] at ha
  by_cases c4 : roomT t = 0
  · rw [if_pos c4] at ha; cases ha
  refine ⟨⟨h.sc, h.set, h.has, h.most, ?_, fun r hr => ?_⟩, c2, c3, c1, c4⟩
  · have := h.room
    unfold roomT at c4
    show (t.l ++ [_]).length + t.kept ≤ t.most
    rw [List.length_append, List.length_singleton]; omega
  · rcases List.mem_append.1 hr with hr | hr
    · exact h.rows r hr
    · rw [List.mem_singleton.1 hr]
      exact ⟨⟨by show 1 ≤ e; omega, he⟩, sort_comps (just_iff.1 c2).2, fun p hp => part_fits (parts_zero c3 p (sort_mem hp))⟩
theorem dropL_len {α : Type} {l : List α} {i : Nat} (hi : i < l.length) : (dropL l i).length = l.length - 1 := by
  unfold dropL
  rw [List.getElem?_eq_getElem (show l.length - 1 < l.length by omega)]
  simp only [List.length_take, List.length_set]; omega
theorem dropL_mem {α : Type} {l : List α} {i : Nat} {x : α} (h : x ∈ dropL l i) : x ∈ l := by
  unfold dropL at h
  cases hl : l[l.length - 1]? with
  | none => rw [hl] at h; exact h
  | some y =>
    rw [hl] at h
    rcases List.mem_or_eq_of_mem_set (List.mem_of_mem_take h) with h | h
    · exact h
    · rw [h]; exact List.mem_of_getElem? hl
theorem TbOk.drop {t : Tb} (h : TbOk t) {i : Nat} (hi : i < t.l.length) : TbOk (dropT t i) :=
  ⟨h.sc, h.set, h.has, h.most, by have := h.room; show (dropL t.l i).length + t.kept ≤ t.most; rw [dropL_len hi]; omega, fun r hr => h.rows r (dropL_mem hr)⟩
theorem RwOk.at {cs : List Cp} {set : Nat} {r : Rw} (h : RwOk cs set r) {k : Nat} {id : Int} (hk : (idsL set)[k]? = some id) : ∃ p, r.p[k]? = some p ∧ p.comp = id := by
  rw [← h.ids, List.getElem?_map] at hk
  obtain ⟨p, hp, hc⟩ := Option.map_eq_some_iff.1 hk
  exact ⟨p, hp, hc⟩
theorem RwOk.len {cs : List Cp} {set : Nat} {r : Rw} (h : RwOk cs set r) : r.p.length = (idsL set).length := by rw [← h.ids, List.length_map]
theorem TbOk.kept {t : Tb} (h : TbOk t) (hr : roomT t ≠ 0) : TbOk { t with kept := t.kept + 1 } :=
  ⟨h.sc, h.set, h.has, h.most, by have := h.room; unfold roomT at hr; show t.l.length + (t.kept + 1) ≤ t.most; omega, h.rows⟩
theorem TbOk.new {s : Sc} {set most : Nat} (hs : set < 4294967296) (h : goodT s set most = true) : TbOk ⟨s, set, most, 0, []⟩ := by
  unfold goodT at h
  simp only [Bool.and_eq_true, decide_eq_true_eq, List.all_eq_true] at h
  obtain ⟨⟨⟨⟨h1, h2⟩, h3⟩, h4⟩, h5⟩ := h
  exact ⟨h1, ⟨hs, h2⟩, h5, ⟨by show 1 ≤ most; omega, by show most ≤ 256; omega⟩, Nat.zero_le _, fun r hr => absurd hr (by simp)⟩
end Go.Proofs.Ytjifibloagkeeaa
end
section
namespace Go.Proofs.Ytjifibloagkeeaa
open Go Go.Lg Go.Lg.Fld
set_option maxRecDepth 100000
variable (X : Nat → Option Obj)
end Go.Proofs.Ytjifibloagkeeaa
end
section
namespace Go.Proofs.Ytjifibloagkeeaa
open Go Go.Lg Go.Lg.Fld
set_option maxRecDepth 100000
theorem reads_rows {X : Nat → Option Obj} {ad : Option Addr} {sz : Nat} {rows : List (List Value)} (hsz : 1 ≤ sz) (hl : ∀ r ∈ rows, r.length = sz) (h : Go.Lg.RowsIn X ad sz rows) : ReadsX X ad rows.flatten := ⟨fun j u hj => by
  have hfl : rows.flatten.length = rows.length * sz := by
    clear h hj
    induction rows with
    | nil => simp
    | cons r t ih =>
      simp only [List.flatten_cons, List.length_append, List.length_cons, ih (fun x hx => hl x (by simp [hx])), hl r (by simp)]
      rw [Nat.add_mul, Nat.one_mul]; omega
  have hjl := (List.getElem?_eq_some_iff.1 hj).1
  have hi : j / sz < rows.length := Nat.div_lt_of_lt_mul (by rw [Nat.mul_comm]; omega)
  obtain ⟨r, hr⟩ : ∃ r, rows[j / sz]? = some r := ⟨_, List.getElem?_eq_getElem hi⟩
  obtain ⟨h1, h2⟩ := flat_row hl (sp := []) hr
  rw [List.append_nil] at h1 h2
  obtain ⟨blk, off, arr, el, fr, e1, e2, e3, e4⟩ := h _ r hr
  have hq : j % sz < sz := Nat.mod_lt _ (by omega)
  have hje : j = j / sz * sz + j % sz := by rw [Nat.mul_comm]; exact (Nat.div_add_mod j sz).symm
  refine ⟨blk, off, arr, el, fr, e1, e2, ?_⟩
  have h3 := row_cell e4 hq
  have h4 : r[j % sz]? = some u := by
    rw [← h2, List.getElem?_take, if_pos hq, List.getElem?_drop, ← hje]; exact hj
  rw [h4] at h3
  rw [hje, ← Nat.add_assoc]; exact h3⟩
end Go.Proofs.Ytjifibloagkeeaa
end
section
namespace Go.Lg
open Go Go.RowKit
section
variable {P : Program} {n : Nat} {ops os : List Oper} {acc : List Eff} {K : List Eff → St → Prop} {s : List (Nat × LV)} {bx : List (Nat × Option Box)} {X : Nat → Option Obj} {σ : St}
end
end Go.Lg
end
section
namespace Go.Proofs.Ytjifibloagkeeaa
open Go Go.Lg Go.Lg.Fld
set_option maxRecDepth 100000
theorem snoc_get {α : Type} {l : List α} {a x : α} {i : Nat} (h : (l ++ [a])[i]? = some x) : (i < l.length ∧ l[i]? = some x) ∨ (i = l.length ∧ x = a) := by
  by_cases e : i < l.length
  · rw [List.getElem?_append_left e] at h; exact .inl ⟨e, h⟩
  · have h1 := (List.getElem?_eq_some_iff.1 h).1
    rw [List.length_append] at h1
    simp only [List.length_singleton] at h1
    have e2 : i = l.length := by omega
    subst e2
    rw [List.getElem?_append_right (Nat.le_refl _), Nat.sub_self] at h
    simp only [List.getElem?_cons_zero, Option.some.injEq] at h
    exact .inr ⟨rfl, h.symm⟩
structure PartsC (X : Nat → Option Obj) (ad : Option Addr) (ps : List Pt) : Prop where
  at_ : ∀ (i : Nat) (p : Pt), ps[i]? = some p → ∃ (blk off : Nat) (arr : Array Value) (el : TypeId) (fr : Nat × Nat) (vad : Option Addr) (vcap : Nat), ad = some ⟨blk, off, none⟩ ∧ X blk = some (.cells arr el fr) ∧ off + i * 2 + 2 ≤ arr.size ∧
    (arr.toList.drop (off + i * 2)).take 2 = [.int .i64 p.comp, .slice vad p.val.length vcap] ∧ NumsIn X vad p.val ∧ p.val.length ≤ vcap
  small : ∀ p ∈ ps, -9223372036854775808 ≤ p.comp ∧ p.comp < 9223372036854775808
theorem PartsC.parts {X : Nat → Option Obj} {ad : Option Addr} {ps : List Pt} (h : PartsC X ad ps) : PartsIn X ad ps := ⟨fun i p hp => by
  obtain ⟨blk, off, arr, el, fr, vad, vcap, h1, h2, h3, h4, h5, _⟩ := h.at_ i p hp
  exact ⟨blk, off, arr, el, fr, vad, vcap, h1, h2, h3, h4, h5⟩, h.small⟩
theorem PartsC.mono {X Y : Nat → Option Obj} (hXY : ∀ b o, X b = some o → Y b = some o) {ad : Option Addr} {ps : List Pt} (h : PartsC X ad ps) : PartsC Y ad ps := ⟨fun i p hp => by
  obtain ⟨blk, off, arr, el, fr, vad, vcap, h1, h2, h3, h4, h5, h6⟩ := h.at_ i p hp
  exact ⟨blk, off, arr, el, fr, vad, vcap, h1, hXY _ _ h2, h3, h4, ⟨h5.rows.mono hXY, h5.in2⟩, h6⟩, h.small⟩
theorem PartsC.get {X : Nat → Option Obj} {ad : Option Addr} {ps : List Pt} (h : PartsC X ad ps) {i : Nat} {p : Pt} (hc : ps[i]? = some p) : ∃ (blk off : Nat) (arr : Array Value) (el : TypeId) (fr : Nat × Nat) (vad : Option Addr) (vcap : Nat), ad = some ⟨blk, off, none⟩ ∧ X blk = some (.cells arr el fr) ∧ off + i * 2 + 2 ≤ arr.size ∧
    ((arr.toList.drop (off + i * 2)).take 2).map CV.val = [.val (.int .i64 p.comp), .val (.slice vad p.val.length vcap)] ∧ arr[off + i * 2]? = some (.int .i64 p.comp) ∧ arr[off + i * 2 + 1]? = some (.slice vad p.val.length vcap) ∧ NumsIn X vad p.val ∧ p.val.length ≤ vcap := by
  obtain ⟨blk, off, arr, el, fr, vad, vcap, h1, h2, h3, h4, h5, h6⟩ := h.at_ i p hc
  obtain ⟨g1, g2⟩ := two_at h4
  exact ⟨blk, off, arr, el, fr, vad, vcap, h1, h2, h3, by rw [h4]; rfl, g1, g2, h5, h6⟩
structure PartsH (H : Nat → Option Obj) (ws : List Value) (ps : List Pt) : Prop where
  len : ws.length = ps.length
  at_ : ∀ (i : Nat) (w : Value) (p : Pt), ws[i]? = some w → ps[i]? = some p → ∃ (vad : Option Addr) (vcap : Nat), w = .slice vad p.val.length vcap ∧ NumsIn H vad p.val
theorem PartsH.nil {H : Nat → Option Obj} : PartsH H [] [] := ⟨rfl, fun i v c h => by simp at h⟩
theorem PartsH.mono {H H' : Nat → Option Obj} (hH : ∀ b o, H b = some o → H' b = some o) {vs : List Value} {cs : List Pt} (G : PartsH H vs cs) : PartsH H' vs cs := ⟨G.len, fun i v c hv hc => by
  obtain ⟨vad, vcap, h1, h2⟩ := G.at_ i v c hv hc
  exact ⟨vad, vcap, h1, h2.rows.mono hH, h2.in2⟩⟩
theorem PartsH.push {H : Nat → Option Obj} {vs : List Value} {cs : List Pt} (G : PartsH H vs cs) {v : Value} {c : Pt} (hv : ∃ (vad : Option Addr) (vcap : Nat), v = .slice vad c.val.length vcap ∧ NumsIn H vad c.val) : PartsH H (vs ++ [v]) (cs ++ [c]) := ⟨by rw [List.length_append, List.length_append, G.len]; rfl, fun i w d hw hd => by
  have hl := G.len
  rcases snoc_get hw with ⟨h1, h2⟩ | ⟨h1, rfl⟩
  · rcases snoc_get hd with ⟨h3, h4⟩ | ⟨h3, _⟩
    · exact G.at_ i w d h2 h4
    · omega
  · rcases snoc_get hd with ⟨h3, _⟩ | ⟨_, rfl⟩
    · omega
    · exact hv⟩
section
variable {n : Nat} {C : Ctx} {X : Nat → Option Obj} {s : List (Nat × LV)} {bx : List (Nat × Option Box)} {k : Nat}
end
end Go.Proofs.Ytjifibloagkeeaa
end
section
namespace Go.Lg
open Go Go.RowKit
section
variable {P : Program} {n : Nat} {ops os : List Oper} {acc : List Eff} {K : List Eff → St → Prop} {s : List (Nat × LV)} {bx : List (Nat × Option Box)} {X : Nat → Option Obj} {σ : St}
end
end Go.Lg
end
section
namespace Go.Proofs.Ytjifibloagkeeaa
open Go Go.Lg Go.Lg.Fld Go.Lg.Sg
set_option maxRecDepth 100000
def tbV (r : Rw) (w : Value) : List Value := [.int .u64 (r.e : Nat), w]
def tbZ (rs : List Rw) (ws : List Value) : List Value := (List.zipWith tbV rs ws).flatten
theorem zip_len {α β γ : Type} {f : α → β → γ} {l : List α} {m : List β} (h : m.length = l.length) : (List.zipWith f l m).length = l.length := by rw [List.length_zipWith, h, Nat.min_self]
theorem zip_twoV {α : Type} {f : α → Value → List Value} (hf : ∀ a w, (f a w).length = 2) {l : List α} {ws : List Value} : ∀ r ∈ List.zipWith f l ws, r.length = 2 := fun r hr => by
  obtain ⟨i, hi, rfl⟩ := List.getElem_of_mem hr
  rw [List.getElem_zipWith]; exact hf _ _
structure TbsH (H : Nat → Option Obj) (ws : List Value) (rs : List Rw) : Prop where
  len : ws.length = rs.length
  at_ : ∀ (i : Nat) (w : Value) (r : Rw), ws[i]? = some w → rs[i]? = some r → ∃ (pad : Option Addr) (pcap : Nat), w = .slice pad r.p.length pcap ∧ PartsIn H pad r.p
theorem parts_mono {X Y : Nat → Option Obj} (hXY : ∀ b o, X b = some o → Y b = some o) {ad : Option Addr} {ps : List Pt} (h : PartsIn X ad ps) : PartsIn Y ad ps := ⟨fun i p hp => by
  obtain ⟨blk, off, arr, el, fr, vad, vcap, h1, h2, h3, h4, h5⟩ := h.at_ i p hp
  exact ⟨blk, off, arr, el, fr, vad, vcap, h1, hXY _ _ h2, h3, h4, ⟨h5.rows.mono hXY, h5.in2⟩⟩, h.small⟩
theorem TbsH.nil {H : Nat → Option Obj} : TbsH H [] [] := ⟨rfl, fun i v c h => by simp at h⟩
theorem TbsH.mono {H H' : Nat → Option Obj} (hH : ∀ b o, H b = some o → H' b = some o) {ws : List Value} {rs : List Rw} (G : TbsH H ws rs) : TbsH H' ws rs := ⟨G.len, fun i v c hv hc => by
  obtain ⟨pad, pcap, h1, h2⟩ := G.at_ i v c hv hc
  exact ⟨pad, pcap, h1, parts_mono hH h2⟩⟩
theorem TbsH.push {H : Nat → Option Obj} {ws : List Value} {rs : List Rw} (G : TbsH H ws rs) {w : Value} {r : Rw} (hv : ∃ (pad : Option Addr) (pcap : Nat), w = .slice pad r.p.length pcap ∧ PartsIn H pad r.p) : TbsH H (ws ++ [w]) (rs ++ [r]) := ⟨by rw [List.length_append, List.length_append, G.len]; rfl, fun i x d hw hd => by
  have hl := G.len
  rcases snoc_get hw with ⟨h1, h2⟩ | ⟨h1, rfl⟩
  · rcases snoc_get hd with ⟨h3, h4⟩ | ⟨h3, _⟩
    · exact G.at_ i x d h2 h4
    · omega
  · rcases snoc_get hd with ⟨h3, _⟩ | ⟨_, rfl⟩
    · omega
    · exact hv⟩
theorem TbsH.set {H : Nat → Option Obj} {ws : List Value} {rs : List Rw} (G : TbsH H ws rs) {i : Nat} {w : Value} {r : Rw} (hv : ∃ (pad : Option Addr) (pcap : Nat), w = .slice pad r.p.length pcap ∧ PartsIn H pad r.p) : TbsH H (ws.set i w) (rs.set i r) := ⟨by rw [List.length_set, List.length_set, G.len], fun j x d hw hd => by
  rw [List.getElem?_set] at hw hd
  by_cases c : i = j
  · rw [if_pos c] at hw hd
    by_cases c2 : j < ws.length
    · have c3 : j < rs.length := by rw [← G.len]; exact c2
      rw [if_pos (by omega)] at hw hd
      cases hw; cases hd
      exact hv
    · rw [if_neg (by omega)] at hw; cases hw
  · rw [if_neg c] at hw hd
    exact G.at_ j x d hw hd⟩
theorem TbsH.take {H : Nat → Option Obj} {ws : List Value} {rs : List Rw} (G : TbsH H ws rs) (n : Nat) : TbsH H (ws.take n) (rs.take n) := ⟨by rw [List.length_take, List.length_take, G.len], fun j x d hw hd => by
  rw [List.getElem?_take] at hw hd
  split at hw
  · rename_i c
    rw [if_pos c] at hd
    exact G.at_ j x d hw hd
  · cases hw⟩
structure TbsIn (X : Nat → Option Obj) (ad : Option Addr) (rs : List Rw) : Prop where
  ex : ∃ ws, TbsH X ws rs ∧ Go.Lg.RowsIn X ad 2 (List.zipWith tbV rs ws)
theorem TbsIn.mono {X Y : Nat → Option Obj} (hXY : ∀ b o, X b = some o → Y b = some o) {ad : Option Addr} {rs : List Rw} (h : TbsIn X ad rs) : TbsIn Y ad rs := by
  obtain ⟨ws, h1, h2⟩ := h.ex
  exact ⟨ws, h1.mono hXY, h2.mono hXY⟩
theorem rowsIn_none {X : Nat → Option Obj} {sz : Nat} {rows : List (List Value)} (h : Go.Lg.RowsIn X none sz rows) : rows = [] := by
  cases rows with
  | nil => rfl
  | cons r l =>
    obtain ⟨_, _, _, _, _, h1, _⟩ := h 0 r rfl
    cases h1
theorem TbsIn.none_ {X : Nat → Option Obj} {rs : List Rw} (h : TbsIn X none rs) : rs = [] := by
  obtain ⟨ws, h1, h2⟩ := h.ex
  have := congrArg List.length (rowsIn_none h2)
  rw [zip_len h1.len] at this
  exact List.eq_nil_of_length_eq_zero this
theorem TbsIn.get {X : Nat → Option Obj} {ad : Option Addr} {rs : List Rw} (h : TbsIn X ad rs) {i : Nat} {r : Rw} (hr : rs[i]? = some r) : ∃ (blk off : Nat) (arr : Array Value) (el : TypeId) (fr : Nat × Nat) (pad : Option Addr) (pcap : Nat), ad = some ⟨blk, off, none⟩ ∧ X blk = some (.cells arr el fr) ∧ off + i * 2 + 2 ≤ arr.size ∧
    ((arr.toList.drop (off + i * 2)).take 2).map CV.val = [.val (.int .u64 (r.e : Nat)), .val (.slice pad r.p.length pcap)] ∧ arr[off + i * 2]? = some (.int .u64 (r.e : Nat)) ∧ arr[off + i * 2 + 1]? = some (.slice pad r.p.length pcap) ∧ PartsIn X pad r.p := by
  obtain ⟨ws, h1, h2⟩ := h.ex
  have hi := (List.getElem?_eq_some_iff.1 hr).1
  obtain ⟨w, hw⟩ : ∃ w, ws[i]? = some w := ⟨_, List.getElem?_eq_getElem (by rw [h1.len]; exact hi)⟩
  obtain ⟨pad, pcap, rfl, hP⟩ := h1.at_ i w r hw hr
  obtain ⟨blk, off, arr, el, fr, g1, g2, g3, g4⟩ := h2 i (tbV r (.slice pad r.p.length pcap)) (by rw [List.getElem?_zipWith, hr, hw])
  obtain ⟨g5, g6⟩ := two_at g4
  exact ⟨blk, off, arr, el, fr, pad, pcap, g1, g2, g3, by rw [g4]; rfl, g5, g6, hP⟩
theorem TbsIn.reads {X : Nat → Option Obj} {ad : Option Addr} {rs : List Rw} (h : TbsIn X ad rs) : ∃ ws, TbsH X ws rs ∧ ReadsX X ad (tbZ rs ws) := by
  obtain ⟨ws, h1, h2⟩ := h.ex
  exact ⟨ws, h1, reads_rows (by decide) (zip_twoV fun _ _ => rfl) h2⟩
section
variable {n : Nat} {C : Ctx} {X : Nat → Option Obj} {s : List (Nat × LV)} {bx : List (Nat × Option Box)} {k : Nat}
end
end Go.Proofs.Ytjifibloagkeeaa
end
section
namespace Go.Proofs.Ytjifibloagkeeaa
open Go Go.Lg Go.Lg.Fld Go.Lg.Sg
set_option maxRecDepth 100000
variable (X : Nat → Option Obj)
abbrev Vn (ad : Option Addr) (n cap : Nat) : LV := .sv (.one (.val (.slice ad n cap)))
end Go.Proofs.Ytjifibloagkeeaa
end
section
namespace Go.Proofs.Ytjifibloagkeeaa
open Go Go.Lg Go.Lg.Fld Go.Lg.Sg
set_option maxRecDepth 100000
structure TbIn (X : Nat → Option Obj) (t : Tb) (ad iad lad : Option Addr) : Prop where
  cs : CompsIn X ad t.sc.cs
  ids : NuIn X iad (idsL t.set)
  l : TbsIn X lad t.l
  small : t.sc.cs.length ≤ 30 ∧ ∀ c ∈ t.sc.cs, c.fs.length ≤ 12
theorem TbIn.mono {X Y : Nat → Option Obj} (hXY : ∀ b o, X b = some o → Y b = some o) {t : Tb} {ad iad lad : Option Addr} (h : TbIn X t ad iad lad) : TbIn Y t ad iad lad := ⟨h.cs.mono hXY, h.ids.mono hXY, h.l.mono hXY, h.small⟩
variable (X : Nat → Option Obj)
end Go.Proofs.Ytjifibloagkeeaa
end
section
namespace Go.Proofs.Ytjifibloagkeeaa
open Go Go.Lg Go.Lg.Fld Go.Lg.Sg
set_option maxRecDepth 100000
variable (X : Nat → Option Obj)
end Go.Proofs.Ytjifibloagkeeaa
end
section
namespace Go.Lg
open Go Go.RowKit
def CV.fix (k b : Nat) : CV → CV
  | .ptr k' off => cond (Nat.beq k' k) (.val (.pointer (some ⟨b, off, none⟩))) (.ptr k' off)
  | .fn fi gi k' => cond (Nat.beq k' k) (.val (.func fi #[] (gi b).toArray)) (.fn fi gi k')
  | .hang g h k' => cond (Nat.beq k' k) (.val (g b)) (.hang g h k')
  | .mp k' => cond (Nat.beq k' k) (.val (.map (some b))) (.mp k')
  | c => c
def SV.fix (k b : Nat) : SV → SV
  | .one c => .one (c.fix k b)
  | .agg l => .agg (l.map (CV.fix k b))
def LV.fix (k b : Nat) : LV → LV
  | .sv s => .sv (s.fix k b)
  | .tup l => .tup (l.map (SV.fix k b))
def Box.fix (k b : Nat) (x : Box) : Box := ⟨x.elem, x.cells.map (CV.fix k b), x.row⟩
def CV.fixIn (k : Nat) (B : List (Nat × Option Box)) : CV → Bool
  | .ptr k' _ => Nat.beq k' k || (look k' B).isSome
  | .fn _ _ k' => Nat.beq k' k || (look k' B).isSome
  | .hang _ _ k' => Nat.beq k' k || (look k' B).isSome
  | .mp k' => Nat.beq k' k || (look k' B).isSome
  | c => c.inUse B
def SV.fixIn (k : Nat) (B : List (Nat × Option Box)) : SV → Bool
  | .one c => c.fixIn k B
  | .agg l => l.all (CV.fixIn k B)
def LV.fixIn (k : Nat) (B : List (Nat × Option Box)) : LV → Bool
  | .sv s => s.fixIn k B
  | .tup l => l.all (SV.fixIn k B)
def fixS (k b : Nat) (s : List (Nat × LV)) : List (Nat × LV) := s.map fun p => (p.1, p.2.fix k b)
def fixB (k b : Nat) (s : List (Nat × Option Box)) : List (Nat × Option Box) := s.map fun p => (p.1, p.2.map (Box.fix k b))
section
variable {S T : Nat → Option (Option Box)} {ι : Nat → Nat × Nat} {B : List (Nat × Option Box)} {k : Nat}
def Stay (B : List (Nat × Option Box)) (S T : Nat → Option (Option Box)) : Prop := ∀ k', (look k' B).isSome = true → ∃ x y, T k' = some x ∧ S k' = some y ∧ x.isSome = y.isSome
theorem CV.rel_stay (hT : Stay B S T) {c : CV} (hu : c.inUse B = true) {v : Value} (hr : c.rel S ι v) : c.rel T ι v := by
  cases c with
  | val u => exact hr
  | junk => trivial
  | ptr k' off =>
    obtain ⟨x, y, h1, h2, h3⟩ := hT k' hu
    simp only [CV.rel, h1, h2] at hr ⊢
    cases x <;> cases y <;> first | exact hr | cases h3
  | slc k' off n sz =>
    obtain ⟨x, y, h1, h2, h3⟩ := hT k' hu
    simp only [CV.rel, h1, h2] at hr ⊢
    cases x <;> cases y <;> first | exact hr | cases h3
  | mp k' =>
    obtain ⟨x, y, h1, h2, h3⟩ := hT k' hu
    simp only [CV.rel, h1, h2] at hr ⊢
    cases x <;> cases y <;> first | exact hr | cases h3
  | fn fi gi k' =>
    obtain ⟨x, y, h1, h2, h3⟩ := hT k' hu
    simp only [CV.rel, h1, h2] at hr ⊢
    cases x <;> cases y <;> first | exact hr | cases h3
  | hang g hg k' =>
    obtain ⟨x, y, h1, h2, h3⟩ := hT k' hu
    simp only [CV.rel, h1, h2] at hr ⊢
    cases x <;> cases y <;> first | exact hr | cases h3
theorem CV.rel_fix (hT : Stay B S T) (hk : ∃ b, S k = some (some b)) {c : CV} (hu : c.fixIn k B = true) {v : Value} (hr : c.rel S ι v) : (c.fix k (ι k).1).rel T ι v := by
  obtain ⟨b, hb⟩ := hk
  cases c with
  | val u => exact hr
  | junk => trivial
  | ptr k' off =>
    simp only [CV.fixIn, Bool.or_eq_true] at hu
    cases e : Nat.beq k' k with
    | true =>
      have e' := Nat.eq_of_beq_eq_true e
      subst e'
      simp only [CV.fix, e, cond_true]
      simp only [CV.rel, hb] at hr
      exact hr
    | false =>
      simp only [CV.fix, e, cond_false]
      rw [e] at hu
      exact CV.rel_stay (c := .ptr k' off) hT (hu.resolve_left (by decide)) hr
  | slc k' off n sz => exact CV.rel_stay (c := .slc k' off n sz) hT hu hr
  | mp k' =>
    simp only [CV.fixIn, Bool.or_eq_true] at hu
    cases e : Nat.beq k' k with
    | true =>
      have e' := Nat.eq_of_beq_eq_true e
      subst e'
      simp only [CV.fix, e, cond_true]
      simp only [CV.rel, hb] at hr
      exact hr
    | false =>
      simp only [CV.fix, e, cond_false]
      rw [e] at hu
      exact CV.rel_stay (c := .mp k') hT (hu.resolve_left (by decide)) hr
  | fn fi gi k' =>
    simp only [CV.fixIn, Bool.or_eq_true] at hu
    cases e : Nat.beq k' k with
    | true =>
      have e' := Nat.eq_of_beq_eq_true e
      subst e'
      simp only [CV.fix, e, cond_true]
      simp only [CV.rel, hb] at hr
      exact hr
    | false =>
      simp only [CV.fix, e, cond_false]
      rw [e] at hu
      exact CV.rel_stay (c := .fn fi gi k') hT (hu.resolve_left (by decide)) hr
  | hang g hg k' =>
    simp only [CV.fixIn, Bool.or_eq_true] at hu
    cases e : Nat.beq k' k with
    | true =>
      have e' := Nat.eq_of_beq_eq_true e
      subst e'
      simp only [CV.fix, e, cond_true]
      simp only [CV.rel, hb] at hr
      exact hr
    | false =>
      simp only [CV.fix, e, cond_false]
      rw [e] at hu
      exact CV.rel_stay (c := .hang g hg k') hT (hu.resolve_left (by decide)) hr
theorem CVs.rel_stay (hT : Stay B S T) : ∀ {l : List CV} {vs : List Value}, l.all (CV.inUse B) = true → CVs.rel S ι l vs → CVs.rel T ι l vs
  | [], [], _, _ => trivial
  | _ :: _, _ :: _, hu, hr => by
    simp only [List.all_cons, Bool.and_eq_true] at hu
    exact ⟨CV.rel_stay hT hu.1 hr.1, CVs.rel_stay hT hu.2 hr.2⟩
  | [], _ :: _, _, hr => hr.elim
  | _ :: _, [], _, hr => hr.elim
theorem CVs.rel_fix (hT : Stay B S T) (hk : ∃ b, S k = some (some b)) : ∀ {l : List CV} {vs : List Value}, l.all (CV.fixIn k B) = true → CVs.rel S ι l vs → CVs.rel T ι (l.map (CV.fix k (ι k).1)) vs
  | [], [], _, _ => trivial
  | _ :: _, _ :: _, hu, hr => by
    simp only [List.all_cons, Bool.and_eq_true] at hu
    exact ⟨CV.rel_fix hT hk hu.1 hr.1, CVs.rel_fix hT hk hu.2 hr.2⟩
  | [], _ :: _, _, hr => hr.elim
  | _ :: _, [], _, hr => hr.elim
theorem SV.rel_stay (hT : Stay B S T) {s : SV} (hu : s.inUse B = true) {v : Value} (hr : s.rel S ι v) : s.rel T ι v := by
  cases s with
  | one c => exact CV.rel_stay hT hu hr
  | agg l => obtain ⟨arr, e, hl⟩ := hr; exact ⟨arr, e, CVs.rel_stay hT hu hl⟩
theorem SV.rel_fix (hT : Stay B S T) (hk : ∃ b, S k = some (some b)) {s : SV} (hu : s.fixIn k B = true) {v : Value} (hr : s.rel S ι v) : (s.fix k (ι k).1).rel T ι v := by
  cases s with
  | one c => exact CV.rel_fix hT hk hu hr
  | agg l => obtain ⟨arr, e, hl⟩ := hr; exact ⟨arr, e, CVs.rel_fix hT hk hu hl⟩
theorem SVs.rel_stay (hT : Stay B S T) : ∀ {l : List SV} {vs : List Value}, l.all (SV.inUse B) = true → SVs.rel S ι l vs → SVs.rel T ι l vs
  | [], [], _, _ => trivial
  | _ :: _, _ :: _, hu, hr => by
    simp only [List.all_cons, Bool.and_eq_true] at hu
    exact ⟨SV.rel_stay hT hu.1 hr.1, SVs.rel_stay hT hu.2 hr.2⟩
  | [], _ :: _, _, hr => hr.elim
  | _ :: _, [], _, hr => hr.elim
theorem SVs.rel_fix (hT : Stay B S T) (hk : ∃ b, S k = some (some b)) : ∀ {l : List SV} {vs : List Value}, l.all (SV.fixIn k B) = true → SVs.rel S ι l vs → SVs.rel T ι (l.map (SV.fix k (ι k).1)) vs
  | [], [], _, _ => trivial
  | _ :: _, _ :: _, hu, hr => by
    simp only [List.all_cons, Bool.and_eq_true] at hu
    exact ⟨SV.rel_fix hT hk hu.1 hr.1, SVs.rel_fix hT hk hu.2 hr.2⟩
  | [], _ :: _, _, hr => hr.elim
  | _ :: _, [], _, hr => hr.elim
theorem LV.rel_stay (hT : Stay B S T) {s : LV} (hu : s.inUse B = true) {v : Value} (hr : s.rel S ι v) : s.rel T ι v := by
  cases s with
  | sv s => exact SV.rel_stay hT hu hr
  | tup l => obtain ⟨arr, e, hl⟩ := hr; exact ⟨arr, e, SVs.rel_stay hT hu hl⟩
theorem LV.rel_fix (hT : Stay B S T) (hk : ∃ b, S k = some (some b)) {s : LV} (hu : s.fixIn k B = true) {v : Value} (hr : s.rel S ι v) : (s.fix k (ι k).1).rel T ι v := by
  cases s with
  | sv s => exact SV.rel_fix hT hk hu hr
  | tup l => obtain ⟨arr, e, hl⟩ := hr; exact ⟨arr, e, SVs.rel_fix hT hk hu hl⟩
theorem Box.rel_stay (hT : Stay B S T) {b : Box} (hu : b.cells.all (CV.inUse B) = true) {vs : List Value} (hr : b.rel S ι vs) : b.rel T ι vs := by
  unfold Box.rel at hr ⊢
  cases hb : b.row with
  | res R => rw [hb] at hr; exact hr.elim
  | bool r =>
    cases r with
    | false => rw [hb] at hr; exact CVs.rel_stay hT hu hr
    | true => rw [hb] at hr; obtain ⟨us, sp, e, hl⟩ := hr; exact ⟨us, sp, e, CVs.rel_stay hT hu hl⟩
theorem Box.rel_fix (hT : Stay B S T) (hk : ∃ b, S k = some (some b)) {b : Box} (hu : b.cells.all (CV.fixIn k B) = true) {vs : List Value} (hr : b.rel S ι vs) : (b.fix k (ι k).1).rel T ι vs := by
  obtain ⟨e, cs, r⟩ := b
  unfold Box.rel at hr ⊢
  simp only [Box.fix] at hu hr ⊢
  cases r with
  | res R => exact hr.elim
  | bool r =>
    cases r with
    | false => exact CVs.rel_fix hT hk hu hr
    | true => obtain ⟨us, sp, e, hl⟩ := hr; exact ⟨us, sp, e, CVs.rel_fix hT hk hu hl⟩
end
theorem look_fixS (k b d : Nat) (s : List (Nat × LV)) : look d (fixS k b s) = (look d s).map (LV.fix k b) := by
  induction s with
  | nil => rfl
  | cons p s ih =>
    obtain ⟨d', lv⟩ := p
    show cond (Nat.beq d' d) _ (look d (fixS k b s)) = (cond (Nat.beq d' d) _ (look d s)).map _
    cases Nat.beq d' d with
    | true => rfl
    | false => exact ih
theorem look_fixB (k b d : Nat) (s : List (Nat × Option Box)) : look d (fixB k b s) = (look d s).map (fun x => x.map (Box.fix k b)) := by
  induction s with
  | nil => rfl
  | cons p s ih =>
    obtain ⟨d', lv⟩ := p
    show cond (Nat.beq d' d) _ (look d (fixB k b s)) = (cond (Nat.beq d' d) _ (look d s)).map _
    cases Nat.beq d' d with
    | true => rfl
    | false => exact ih
section
variable {P : Program} {n : Nat} {C : Ctx} {c : Code} {Q : Exit → St → Prop} {X : Nat → Option Obj}
theorem Rel.fixN {ι : Nat → Nat × Nat} {a : Act} {w : World} {s0 s : List (Nat × LV)} {b0 bx : List (Nat × Option Box)} {k : Nat} {b : Box} {H : Nat → Option Obj} {F : Nat → Nat → Option Obj}
    (hk : look k (b0 ++ bx) = none) (hs : s.all (fun p => p.2.inUse (b0 ++ bx)) = true) (hb : bx.all (fun p => match p.2 with | some b => b.cells.all (CV.inUse (b0 ++ bx)) | none => true) = true)
    (hs0 : s0.all (fun p => p.2.fixIn k (b0 ++ bx)) = true) (hb0 : b0.all (fun p => match p.2 with | some b => b.cells.all (CV.fixIn k (b0 ++ bx)) | none => true) = true)
    (hr : Rel n C ι ⟨s0 ++ s, b0 ++ (k, some b) :: bx, X⟩ a w)
    (hH : ∀ i o, H i = some o → w.heap[i]? = some o ∧ X i = none ∧ ∀ j bj, (⟨s0 ++ s, b0 ++ (k, some b) :: bx, X⟩ : St).stat j = some (some bj) → (ι j).1 = i → j = k)
    (hF : ResAt (fun b => C.own b ∨ C.w0.heap.size ≤ b) ι F (⟨s0 ++ s, b0 ++ (k, some b) :: bx, X⟩ : St).stat X w) (hFH : ∀ j, j ≠ k → ∀ i, F j i ≠ none → H i = none) :
    Rel n C ι ⟨fixS k (ι k).1 s0 ++ s, fixB k (ι k).1 b0 ++ bx, joinM X H⟩ a w := by
  have hk1 : look k b0 = none ∧ look k bx = none := by
    rw [look_append] at hk
    cases h : look k b0 with
    | none => rw [h] at hk; exact ⟨rfl, hk⟩
    | some x => rw [h] at hk; cases hk
  have hstat : ∀ j, (⟨s0 ++ s, b0 ++ (k, some b) :: bx, X⟩ : St).stat j = (look j b0).or (if j = k then some (some b) else look j bx) := fun j => by
    show look j (b0 ++ (k, some b) :: bx) = _
    rw [look_append]
    have := stat_cons [] bx X k j (some b)
    simp only [St.stat] at this
    rw [this]
  have hnew : ∀ j, (⟨fixS k (ι k).1 s0 ++ s, fixB k (ι k).1 b0 ++ bx, joinM X H⟩ : St).stat j = ((look j b0).map (fun x => x.map (Box.fix k (ι k).1))).or (look j bx) := fun j => by
    show look j (fixB k (ι k).1 b0 ++ bx) = _
    rw [look_append, look_fixB]
  have hst : (⟨s0 ++ s, b0 ++ (k, some b) :: bx, X⟩ : St).stat k = some (some b) := by rw [hstat, hk1.1, if_pos rfl]; rfl
  have live : ∀ j x, (⟨fixS k (ι k).1 s0 ++ s, fixB k (ι k).1 b0 ++ bx, joinM X H⟩ : St).stat j = some x → j ≠ k ∧ ((∃ y, look j b0 = some y ∧ x = y.map (Box.fix k (ι k).1) ∧ (⟨s0 ++ s, b0 ++ (k, some b) :: bx, X⟩ : St).stat j = some y) ∨ (look j b0 = none ∧ look j bx = some x ∧ (⟨s0 ++ s, b0 ++ (k, some b) :: bx, X⟩ : St).stat j = some x)) := fun j x hj => by
    rw [hnew] at hj
    cases h0 : look j b0 with
    | some y =>
      rw [h0] at hj
      have hj : some (y.map (Box.fix k (ι k).1)) = some x := hj
      cases hj
      exact ⟨fun e => (by rw [e, hk1.1] at h0; cases h0), .inl ⟨y, rfl, rfl, by rw [hstat, h0]; rfl⟩⟩
    | none =>
      rw [h0] at hj
      have hj : look j bx = some x := hj
      have hne : j ≠ k := fun e => by rw [e, hk1.2] at hj; cases hj
      exact ⟨hne, .inr ⟨rfl, hj, by rw [hstat, h0, if_neg hne]; exact hj⟩⟩
  have hT : Stay (b0 ++ bx) (⟨s0 ++ s, b0 ++ (k, some b) :: bx, X⟩ : St).stat (⟨fixS k (ι k).1 s0 ++ s, fixB k (ι k).1 b0 ++ bx, joinM X H⟩ : St).stat := fun j hj => by
    rw [look_append] at hj
    rw [hnew, hstat]
    cases h0 : look j b0 with
    | some y =>
      refine ⟨y.map (Box.fix k (ι k).1), y, rfl, rfl, ?_⟩
      cases y <;> rfl
    | none =>
      rw [h0] at hj
      have hj : (look j bx).isSome = true := hj
      obtain ⟨x, hx⟩ := Option.isSome_iff_exists.1 hj
      have hne : j ≠ k := fun e => by rw [e, hk1.2] at hx; cases hx
      rw [if_neg hne, hx]
      exact ⟨x, x, rfl, rfl, rfl⟩
  have live2 : ∀ j bj, (⟨fixS k (ι k).1 s0 ++ s, fixB k (ι k).1 b0 ++ bx, joinM X H⟩ : St).stat j = some (some bj) → j ≠ k ∧ ∃ bj0, (⟨s0 ++ s, b0 ++ (k, some b) :: bx, X⟩ : St).stat j = some (some bj0) ∧ bj.row = bj0.row := fun j bj hj => by
    obtain ⟨hne, h⟩ := live j _ hj
    rcases h with ⟨y, _, h2, h3⟩ | ⟨_, _, h3⟩
    · cases y with
      | none => cases h2
      | some y =>
        have h2 : some bj = some (y.fix k (ι k).1) := h2
        cases h2
        exact ⟨hne, y, h3, rfl⟩
    · exact ⟨hne, bj, h3, rfl⟩
  have hHk : ∀ j bj, (⟨fixS k (ι k).1 s0 ++ s, fixB k (ι k).1 b0 ++ bx, joinM X H⟩ : St).stat j = some (some bj) → H (ι j).1 = none := fun j bj hj => by
    obtain ⟨hne, bj0, h1, _⟩ := live2 j bj hj
    cases hc : H (ι j).1 with
    | none => rfl
    | some o => exact absurd ((hH _ o hc).2.2 j bj0 h1 rfl) hne
  exact {
    defers := hr.defers, size := hr.size
    slots := fun d lv hd => by
      have hd : look d (fixS k (ι k).1 s0 ++ s) = some lv := hd
      rw [look_append, look_fixS] at hd
      cases h0 : look d s0 with
      | some lv0 =>
        rw [h0] at hd
        have hd : some (lv0.fix k (ι k).1) = some lv := hd
        cases hd
        obtain ⟨v, hv, hvr⟩ := hr.slots d lv0 (by show look d (s0 ++ s) = _; rw [look_append, h0]; rfl)
        exact ⟨v, hv, LV.rel_fix hT ⟨b, hst⟩ (List.all_eq_true.1 hs0 _ (look_mem h0)) hvr⟩
      | none =>
        rw [h0] at hd
        have hd : look d s = some lv := hd
        obtain ⟨v, hv, hvr⟩ := hr.slots d lv (by show look d (s0 ++ s) = _; rw [look_append, h0]; exact hd)
        exact ⟨v, hv, LV.rel_stay hT (List.all_eq_true.1 hs _ (look_mem hd)) hvr⟩
    boxes := fun j bj hj hbk => by
      obtain ⟨hne, h⟩ := live j _ hj
      rcases h with ⟨y, h1, h2, h3⟩ | ⟨h1, h2, h3⟩
      · cases y with
        | none => cases h2
        | some y =>
          have h2 : some bj = some (y.fix k (ι k).1) := h2
          cases h2
          obtain ⟨arr, fr, g1, g2, g3, g4⟩ := hr.boxes j y h3 hbk
          exact ⟨arr, fr, g1, g2, g3, Box.rel_fix hT ⟨b, hst⟩ (by simpa using List.all_eq_true.1 hb0 _ (look_mem h1)) g4⟩
      · obtain ⟨arr, fr, g1, g2, g3, g4⟩ := hr.boxes j bj h3 hbk
        exact ⟨arr, fr, g1, g2, g3, Box.rel_stay hT (by simpa using List.all_eq_true.1 hb _ (look_mem h2)) g4⟩
    own := fun j bj hj => by
      obtain ⟨hne, bj0, h1, _⟩ := live2 j bj hj
      obtain ⟨h2, h3⟩ := hr.own j bj0 h1
      exact ⟨h2, (joinM_out (hHk j bj hj)).trans h3⟩
    inj := fun i j bi bj hi hj he => by
      obtain ⟨_, bi0, h1, _⟩ := live2 i bi hi
      obtain ⟨_, bj0, h2, _⟩ := live2 j bj hj
      exact hr.inj i j bi0 bj0 h1 h2 he
    keep := fun j bj hj hge => by
      obtain ⟨_, bj0, h1, _⟩ := live2 j bj hj
      exact hr.keep j bj0 h1 hge
    ext := fun i o hi => by
      have hi : joinM X H i = some o := hi
      cases hc : H i with
      | none => rw [joinM_out hc] at hi; exact hr.ext i o hi
      | some o' =>
        rw [joinM_in hc] at hi
        cases hi
        exact (hH i o hc).1
    res := by
      refine ⟨fun j => open Classical in if j = k then fun _ => none else F j, fun j e' cs' R' hj => ?_, fun j i o ho => ?_, fun i j i' h1 h2 => ?_⟩
      · obtain ⟨hne, h⟩ := live j _ hj
        rw [if_neg hne]
        rcases h with ⟨y, h1, h2, h3⟩ | ⟨h1, h2, h3⟩
        · cases y with
          | none => cases h2
          | some y =>
            obtain ⟨ye, yc, yr⟩ := y
            have h2 : some (⟨e', cs', .res R'⟩ : Box) = some (Box.fix k (ι k).1 ⟨ye, yc, yr⟩) := h2
            simp only [Box.fix, Option.some.injEq, Box.mk.injEq] at h2
            obtain ⟨_, _, e3⟩ := h2
            subst e3
            exact hF.holds j _ _ R' h3
        · exact hF.holds j _ _ R' h3
      · by_cases ej : j = k
        · rw [if_pos ej] at ho; cases ho
        · rw [if_neg ej] at ho
          obtain ⟨⟨e1, cs1, R1, h1⟩, h2, h3, h4, h5, h6⟩ := hF.mem j i o ho
          refine ⟨?_, h2, h3, h4, (joinM_out (hFH j ej i (by rw [ho]; simp))).trans h5, fun i2 bi hi ei => ?_⟩
          · rw [hstat, if_neg ej] at h1
            unfold isRes
            rw [hnew]
            cases h0 : look j b0 with
            | some y =>
              rw [h0] at h1
              have h1 : some y = some (some ⟨e1, cs1, .res R1⟩) := h1
              cases h1
              exact ⟨_, _, _, rfl⟩
            | none =>
              rw [h0] at h1
              have h1 : look j bx = some (some ⟨e1, cs1, .res R1⟩) := h1
              exact ⟨_, _, _, h1⟩
          · obtain ⟨_, bi0, h7, _⟩ := live2 i2 bi hi
            exact h6 i2 bi0 h7 ei
      · by_cases ei : i = k
        · rw [if_pos ei] at h1; exact absurd rfl h1
        · by_cases ej : j = k
          · rw [if_pos ej] at h2; exact absurd rfl h2
          · rw [if_neg ei] at h1
            rw [if_neg ej] at h2
            exact hF.apart i j i' h1 h2
    frame := hr.frame, big := hr.big, os := hr.os, tape := hr.tape, output := hr.output }
theorem Rel.fixRsc {ι : Nat → Nat × Nat} {a : Act} {w : World} {s0 s : List (Nat × LV)} {b0 bx : List (Nat × Option Box)} {k : Nat} {e : TypeId} {cs : List CV} {R : Rsc}
    (hk : look k (b0 ++ bx) = none) (hs : s.all (fun p => p.2.inUse (b0 ++ bx)) = true) (hb : bx.all (fun p => match p.2 with | some b => b.cells.all (CV.inUse (b0 ++ bx)) | none => true) = true)
    (hs0 : s0.all (fun p => p.2.fixIn k (b0 ++ bx)) = true) (hb0 : b0.all (fun p => match p.2 with | some b => b.cells.all (CV.fixIn k (b0 ++ bx)) | none => true) = true)
    (hr : Rel n C ι ⟨s0 ++ s, b0 ++ (k, some ⟨e, cs, .res R⟩) :: bx, X⟩ a w) :
    ∃ (ρ : Nat × Nat) (H : Nat → Option Obj), R.holds ρ H ∧ OwnedM C X H ∧
      Rel n C ι ⟨fixS k ρ.1 s0 ++ s, fixB k ρ.1 b0 ++ bx, joinM X H⟩ a w := by
  have hst : (⟨s0 ++ s, b0 ++ (k, some ⟨e, cs, .res R⟩) :: bx, X⟩ : St).stat k = some (some ⟨e, cs, .res R⟩) := by
    show look k (b0 ++ (k, some ⟨e, cs, .res R⟩) :: bx) = _
    rw [look_append] at hk ⊢
    cases h : look k b0 with
    | none => simp [look]
    | some x => rw [h] at hk; cases hk
  obtain ⟨F, hF⟩ := hr.res
  refine ⟨ι k, F k, (hF.holds k _ _ _ hst).1, ⟨fun b o hb => let h := hF.mem k b o hb; ⟨h.2.2.2.1, h.2.2.1, h.2.2.2.2.1⟩⟩, ?_⟩
  refine hr.fixN hk hs hb hs0 hb0 (fun i o hi => ?_) hF (fun j hj i hi => ?_)
  · obtain ⟨_, h2, _, _, h5, h6⟩ := hF.mem k i o hi
    exact ⟨h2, h5, fun j bj hj he => h6 j bj hj he⟩
  · cases hc : F k i with
    | none => rfl
    | some o => exact absurd (hF.apart j k i hi (by rw [hc]; simp)) hj
theorem LWP.fixRsc (s0 : List (Nat × LV)) (b0 : List (Nat × Option Box)) {s : List (Nat × LV)} {bx : List (Nat × Option Box)} {k : Nat} {e : TypeId} {cs : List CV} {R : Rsc}
    (hk : look k (b0 ++ bx) = none) (hs : s.all (fun p => p.2.inUse (b0 ++ bx)) = true) (hb : bx.all (fun p => match p.2 with | some b => b.cells.all (CV.inUse (b0 ++ bx)) | none => true) = true)
    (hs0 : s0.all (fun p => p.2.fixIn k (b0 ++ bx)) = true) (hb0 : b0.all (fun p => match p.2 with | some b => b.cells.all (CV.fixIn k (b0 ++ bx)) | none => true) = true)
    (h : ∀ (ρ : Nat × Nat) (H : Nat → Option Obj), R.holds ρ H → OwnedM C X H → LWP P n C c Q ⟨fixS k ρ.1 s0 ++ s, fixB k ρ.1 b0 ++ bx, joinM X H⟩) :
    LWP P n C c Q ⟨s0 ++ s, b0 ++ (k, some ⟨e, cs, .res R⟩) :: bx, X⟩ := by
  refine ⟨fun ι a w hr => ?_⟩
  obtain ⟨ρ, H, h1, h2, h3⟩ := hr.fixRsc hk hs hb hs0 hb0
  exact (h ρ H h1 h2).out ι a w h3
theorem Leads.fixRsc {Mid : St → Prop} (s0 : List (Nat × LV)) (b0 : List (Nat × Option Box)) {s : List (Nat × LV)} {bx : List (Nat × Option Box)} {k : Nat} {e : TypeId} {cs : List CV} {R : Rsc}
    (hk : look k (b0 ++ bx) = none) (hs : s.all (fun p => p.2.inUse (b0 ++ bx)) = true) (hb : bx.all (fun p => match p.2 with | some b => b.cells.all (CV.inUse (b0 ++ bx)) | none => true) = true)
    (hs0 : s0.all (fun p => p.2.fixIn k (b0 ++ bx)) = true) (hb0 : b0.all (fun p => match p.2 with | some b => b.cells.all (CV.fixIn k (b0 ++ bx)) | none => true) = true)
    (h : ∀ (ρ : Nat × Nat) (H : Nat → Option Obj), R.holds ρ H → OwnedM C X H → Leads n C Mid ⟨fixS k ρ.1 s0 ++ s, fixB k ρ.1 b0 ++ bx, joinM X H⟩) :
    Leads n C Mid ⟨s0 ++ s, b0 ++ (k, some ⟨e, cs, .res R⟩) :: bx, X⟩ := by
  refine ⟨fun ι a w hr => ?_⟩
  obtain ⟨ρ, H, h1, h2, h3⟩ := hr.fixRsc hk hs hb hs0 hb0
  exact (h ρ H h1 h2).out ι a w h3
end
section
variable {P : Program} {n : Nat} {ops os : List Oper} {acc : List Eff} {K : List Eff → St → Prop} {s : List (Nat × LV)} {bx : List (Nat × Option Box)} {X : Nat → Option Obj} {σ : St}
end
section
variable {P : Program} {n : Nat} {ops os : List Oper} {acc : List Eff} {K : List Eff → St → Prop} {s : List (Nat × LV)} {bx : List (Nat × Option Box)} {X : Nat → Option Obj} {σ : St}
end
end Go.Lg
end
section
namespace Go.Lg
open Go Go.RowKit
section
variable {P : Program} {n : Nat} {ops os : List Oper} {acc : List Eff} {K : List Eff → St → Prop} {s : List (Nat × LV)} {bx : List (Nat × Option Box)} {X : Nat → Option Obj} {σ : St}
end
end Go.Lg
end
section
namespace Go.Lg
open Go Go.RowKit
theorem joinM_join (X H H2 : Nat → Option Obj) : joinM (joinM X H) H2 = joinM X (joinM H H2) := by
  funext b
  unfold joinM
  cases H2 b <;> rfl
theorem OwnedM.join {C : Ctx} {X H H2 : Nat → Option Obj} (h : OwnedM C X H) (h2 : OwnedM C (joinM X H) H2) : OwnedM C X (joinM H H2) := ⟨fun b o hb => by
  cases hc : H2 b with
  | none => rw [joinM_out hc] at hb; exact h.own b o hb
  | some o' =>
    rw [joinM_in hc] at hb
    cases hb
    obtain ⟨h3, h4, h5⟩ := h2.own b _ hc
    exact ⟨h3, h4, (joinM_none h5).2⟩⟩
theorem joinM_keeps {C : Ctx} {X H H2 : Nat → Option Obj} (h2 : OwnedM C (joinM X H) H2) : ∀ b o, H b = some o → joinM H H2 b = some o := fun b o hb => by
  cases hc : H2 b with
  | none => rw [joinM_out hc]; exact hb
  | some o' =>
    have := (joinM_none (h2.own b o' hc).2.2).1
    rw [this] at hb
    cases hb
section
variable {P : Program} {n : Nat} {C : Ctx} {c : Code} {Q : Exit → St → Prop} {X : Nat → Option Obj}
theorem rel_unslc {S : Nat → Option (Option Box)} {ι : Nat → Nat × Nat} {A B : List CV} {k off len sz : Nat} {x : Box} (hsk : S k = some (some x)) {vs : List Value} (h : CVs.rel S ι (A ++ .slc k off len sz :: B) vs) : ∃ cap : Nat, len ≤ cap ∧ off + cap * sz ≤ (ι k).2 ∧ CVs.rel S ι (A ++ .val (.slice (some ⟨(ι k).1, off, none⟩) len cap) :: B) vs := by
  obtain ⟨va, v, vb, rfl, h1, h2, h3⟩ := rel_mid h
  simp only [CV.rel] at h2
  rw [hsk] at h2
  obtain ⟨cap, rfl, hc, hf⟩ := h2
  exact ⟨cap, hc, hf, CVs.rel_append h1 ⟨rfl, h3⟩⟩
theorem Rel.unslc {ι : Nat → Nat × Nat} {a : Act} {w : World} {s : List (Nat × LV)} {bx : List (Nat × Option Box)} {j k off len sz : Nat} {e : TypeId} {A B : List CV} {row : Bool} {x : Box}
    (hj : Nat.beq j k = false) (hkx : look k bx = some (some x))
    (hr : Rel n C ι ⟨s, (j, some ⟨e, A ++ .slc k off len sz :: B, row⟩) :: bx, X⟩ a w) :
    ∃ cap : Nat, len ≤ cap ∧ off + cap * sz ≤ (ι k).2 ∧ Rel n C ι ⟨s, (j, some ⟨e, A ++ .val (.slice (some ⟨(ι k).1, off, none⟩) len cap) :: B, row⟩) :: bx, X⟩ a w := by
  have hkj : k ≠ j := fun h => by rw [h, Nat.beq_refl] at hj; cases hj
  obtain ⟨arr, fr, g1, g2, g3, g4⟩ := hr.boxes j ⟨e, A ++ .slc k off len sz :: B, row⟩ (by rw [stat_hd, if_pos rfl]) rfl
  have hsk : (⟨s, (j, some ⟨e, A ++ .slc k off len sz :: B, row⟩) :: bx, X⟩ : St).stat k = some (some x) := by rw [stat_hd, if_neg hkj]; exact hkx
  have key : ∃ cap : Nat, len ≤ cap ∧ off + cap * sz ≤ (ι k).2 ∧ Box.rel (⟨s, (j, some ⟨e, A ++ .slc k off len sz :: B, row⟩) :: bx, X⟩ : St).stat ι ⟨e, A ++ .val (.slice (some ⟨(ι k).1, off, none⟩) len cap) :: B, row⟩ arr.toList := by
    unfold Box.rel at g4 ⊢
    cases row with
    | false => exact rel_unslc hsk g4
    | true =>
      obtain ⟨us, sp, e1, h1⟩ := g4
      obtain ⟨cap, hc, hf, h2⟩ := rel_unslc hsk h1
      exact ⟨cap, hc, hf, us, sp, e1, h2⟩
  obtain ⟨cap, hc, hf, g5⟩ := key
  refine ⟨cap, hc, hf, ?_⟩
  generalize hcs : A ++ .slc k off len sz :: B = cs at *
  generalize hcs' : A ++ .val (.slice (some ⟨(ι k).1, off, none⟩) len cap) :: B = cs' at *
  have hlater := later_hd (s := s) (bx := bx) (k := j) ι ⟨e, cs, row⟩ ⟨e, cs', row⟩ X X
  have live : ∀ i b, (⟨s, (j, some ⟨e, cs', row⟩) :: bx, X⟩ : St).stat i = some (some b) → ∃ b0, (⟨s, (j, some ⟨e, cs, row⟩) :: bx, X⟩ : St).stat i = some (some b0) ∧ (i ≠ j → b = b0) := fun i b hi => by
    rw [stat_hd] at hi ⊢
    by_cases e : i = j
    · rw [if_pos e]; exact ⟨_, rfl, fun h => absurd e h⟩
    · rw [if_neg e] at hi ⊢; exact ⟨b, hi, fun _ => rfl⟩
  exact {
    defers := hr.defers, size := hr.size
    slots := fun d lv hd => by
      obtain ⟨v, hv, hvr⟩ := hr.slots d lv hd
      exact ⟨v, hv, LV.rel_later hlater hvr⟩
    boxes := fun i b hi hbk => by
      by_cases ei : i = j
      · subst ei
        rw [stat_hd, if_pos rfl] at hi
        simp only [Option.some.injEq] at hi
        subst hi
        exact ⟨arr, fr, g1, g2, g3, Box.rel_later hlater g5⟩
      · obtain ⟨b0, h0, h1⟩ := live i b hi
        have := h1 ei
        subst this
        obtain ⟨arr, fr, g1, g2, g3, g4⟩ := hr.boxes i b h0 hbk
        exact ⟨arr, fr, g1, g2, g3, Box.rel_later hlater g4⟩
    own := fun i b hi => by obtain ⟨b0, h0, _⟩ := live i b hi; exact hr.own i b0 h0
    inj := fun i i' bi bj hi hj he => by
      obtain ⟨b1, h1, _⟩ := live i bi hi
      obtain ⟨b2, h2, _⟩ := live i' bj hj
      exact hr.inj i i' b1 b2 h1 h2 he
    keep := fun i b hi hge => by obtain ⟨b0, h0, _⟩ := live i b hi; exact hr.keep i b0 h0 hge
    ext := hr.ext
    res := by
      obtain ⟨F, hG⟩ := hr.res
      refine hG.keep (fun i e cs R hi => ?_) (fun _ _ _ _ _ hi => hi) (fun _ _ ho => ho) (fun b _ hx _ _ => hx) (fun i bi hi => ?_)
      · rw [stat_hd] at hi ⊢
        by_cases e : i = j
        · rw [if_pos e] at hi; cases hi
        · rw [if_neg e] at hi ⊢; exact ⟨hi, rfl⟩
      · obtain ⟨b0, h0, _⟩ := live i bi hi
        exact .inl ⟨b0, h0, rfl⟩
    frame := hr.frame, big := hr.big, os := hr.os, tape := hr.tape, output := hr.output }
theorem Rel.fixAlone {ι : Nat → Nat × Nat} {a : Act} {w : World} {s : List (Nat × LV)} {bx : List (Nat × Option Box)} {k : Nat} {e : TypeId} {cs : List CV} {R : Rsc}
    (hs : s.all (fun p => p.2.inUse bx) = true) (hb : bx.all (fun p => match p.2 with | some b => b.cells.all (CV.inUse bx) | none => true) = true) (hk : look k bx = none)
    (hr : Rel n C ι ⟨s, (k, some ⟨e, cs, .res R⟩) :: bx, X⟩ a w) :
    ∃ (H : Nat → Option Obj), R.holds (ι k) H ∧ OwnedM C X H ∧ Rel n C ι ⟨s, bx, joinM X H⟩ a w := by
  have hst : (⟨s, (k, some ⟨e, cs, .res R⟩) :: bx, X⟩ : St).stat k = some (some ⟨e, cs, .res R⟩) := by simp [St.stat, look]
  have hlk : ∀ k' x, look k' bx = some x → k' ≠ k := fun k' x h' e => by rw [e, hk] at h'; cases h'
  have hstb : ∀ k' x, look k' bx = some x → (⟨s, (k, some ⟨e, cs, .res R⟩) :: bx, X⟩ : St).stat k' = some x := fun k' x h' => by
    simp only [St.stat, look]
    cases e : Nat.beq k k' with
    | true => exact absurd (Nat.eq_of_beq_eq_true e).symm (hlk k' x h')
    | false => exact h'
  have hback : ∀ j x, j ≠ k → (⟨s, (k, some ⟨e, cs, .res R⟩) :: bx, X⟩ : St).stat j = some x → look j bx = some x := fun j x hj h' => by
    simp only [St.stat, look] at h'
    cases e : Nat.beq k j with
    | true => exact absurd (Nat.eq_of_beq_eq_true e).symm hj
    | false => rw [e] at h'; exact h'
  obtain ⟨F, hF⟩ := hr.res
  obtain ⟨hR, _⟩ := hF.holds k _ _ _ hst
  refine ⟨F k, hR, ⟨fun b o hb => let h := hF.mem k b o hb; ⟨h.2.2.2.1, h.2.2.1, h.2.2.2.2.1⟩⟩, ?_⟩
  have hon : SameOn bx (⟨s, (k, some ⟨e, cs, .res R⟩) :: bx, X⟩ : St).stat (fun k => look k bx) := fun k' x h' => (hstb k' x h').trans h'.symm
  have hnot : ∀ j b, look j bx = some (some b) → F k (ι j).1 = none := fun j b hj => by
    cases hc : F k (ι j).1 with
    | none => rfl
    | some o => exact absurd ((hF.mem k _ o hc).2.2.2.2.2 j b (hstb j _ hj) rfl) (hlk j _ hj)
  exact {
    defers := hr.defers, size := hr.size
    slots := fun d' lv hd => by
      obtain ⟨v', hv', hr'⟩ := hr.slots d' lv hd
      exact ⟨v', hv', LV.rel_on hon (List.all_eq_true.1 hs _ (look_mem hd)) hr'⟩
    boxes := fun k' b hb' hbk => by
      have hb' : look k' bx = some (some b) := hb'
      obtain ⟨arr', fr', h1, h2, h3, h4⟩ := hr.boxes k' b (hstb k' _ hb') hbk
      exact ⟨arr', fr', h1, h2, h3, Box.rel_on hon (by simpa using List.all_eq_true.1 hb _ (look_mem hb')) h4⟩
    own := fun k' b hb' => by
      have hb' : look k' bx = some (some b) := hb'
      obtain ⟨h1, h2⟩ := hr.own k' b (hstb k' _ hb')
      exact ⟨h1, (joinM_out (hnot k' b hb')).trans h2⟩
    inj := fun k1 k2 b1 b2 h1 h2 he => hr.inj k1 k2 b1 b2 (hstb k1 _ h1) (hstb k2 _ h2) he
    keep := fun k' b hb' hge => hr.keep k' b (hstb k' _ hb') hge
    ext := fun b o hbo => by
      have hbo : joinM X (F k) b = some o := hbo
      cases hc : F k b with
      | none => rw [joinM_out hc] at hbo; exact hr.ext b o hbo
      | some o' =>
        rw [joinM_in hc] at hbo
        cases hbo
        exact (hF.mem k b _ hc).2.1
    res := by
      refine ⟨fun j => open Classical in if j = k then fun _ => none else F j, fun j e' cs' R' hj => ?_, fun j b o ho => ?_, fun i j b h1 h2 => ?_⟩
      · have hj : look j bx = some (some ⟨e', cs', .res R'⟩) := hj
        rw [if_neg (hlk j _ hj)]
        exact hF.holds j e' cs' R' (hstb j _ hj)
      · by_cases ej : j = k
        · rw [if_pos ej] at ho; cases ho
        · rw [if_neg ej] at ho
          obtain ⟨⟨e1, cs1, R1, h1⟩, h2, h3, h4, h5, h6⟩ := hF.mem j b o ho
          refine ⟨⟨e1, cs1, R1, hback j _ ej h1⟩, h2, h3, h4, ?_, fun i bi hi ei => h6 i bi (hstb i _ hi) ei⟩
          have hc : F k b = none := by
            cases hc : F k b with
            | none => rfl
            | some o' => exact absurd (hF.apart j k b (by rw [ho]; simp) (by rw [hc]; simp)) ej
          exact (joinM_out hc).trans h5
      · by_cases ei : i = k
        · rw [if_pos ei] at h1; exact absurd rfl h1
        · by_cases ej : j = k
          · rw [if_pos ej] at h2; exact absurd rfl h2
          · rw [if_neg ei] at h1
            rw [if_neg ej] at h2
            exact hF.apart i j b h1 h2
    frame := hr.frame, big := hr.big, os := hr.os, tape := hr.tape, output := hr.output }
theorem Rel.fixCell {ι : Nat → Nat × Nat} {a : Act} {w : World} {s : List (Nat × LV)} {bx : List (Nat × Option Box)} {j k off len sz : Nat} {e e2 : TypeId} {A B cs : List CV} {row : Bool} {R : Rsc}
    (hs : s.all (fun p => p.2.inUse ((j, none) :: bx)) = true) (hA : A.all (CV.inUse ((j, none) :: bx)) = true) (hB : B.all (CV.inUse ((j, none) :: bx)) = true) (hb : bx.all (fun p => match p.2 with | some b => b.cells.all (CV.inUse ((j, none) :: bx)) | none => true) = true) (hk : look k bx = none) (hjk : Nat.beq j k = false)
    (hr : Rel n C ι ⟨s, (j, some ⟨e2, A ++ .slc k off len sz :: B, row⟩) :: (k, some ⟨e, cs, .res R⟩) :: bx, X⟩ a w) :
    ∃ (ρ : Nat × Nat) (H : Nat → Option Obj) (cap : Nat), R.holds ρ H ∧ OwnedM C X H ∧ len ≤ cap ∧ off + cap * sz ≤ ρ.2 ∧
      Rel n C ι ⟨s, (j, some ⟨e2, A ++ .val (.slice (some ⟨ρ.1, off, none⟩) len cap) :: B, row⟩) :: bx, joinM X H⟩ a w := by
  have hlk : look k ((k, some (⟨e, cs, .res R⟩ : Box)) :: bx) = some (some ⟨e, cs, .res R⟩) := by simp [look]
  obtain ⟨cap, hc, hf, hr2⟩ := hr.unslc hjk hlk
  have hr3 : Rel n C ι ⟨s, (k, some ⟨e, cs, .res R⟩) :: (j, some ⟨e2, A ++ .val (.slice (some ⟨(ι k).1, off, none⟩) len cap) :: B, row⟩) :: bx, X⟩ a w :=
    hr2.same ⟨fun _ => rfl, fun i => look_swap hjk, rfl⟩
  have any : ∀ (y : Option Box) {c : CV}, c.inUse ((j, none) :: bx) = true → c.inUse ((j, y) :: bx) = true := fun y c h => by
    cases c <;> first | rfl | (simp only [CV.inUse, look] at h ⊢; cases hjj : Nat.beq j _ <;> simp_all)
  have anyS : ∀ (y : Option Box) {c : SV}, c.inUse ((j, none) :: bx) = true → c.inUse ((j, y) :: bx) = true := fun y c h => by
    cases c with
    | one c => exact any y h
    | agg l => exact List.all_eq_true.2 fun c hc => any y (List.all_eq_true.1 h c hc)
  have anyL : ∀ (y : Option Box) {c : LV}, c.inUse ((j, none) :: bx) = true → c.inUse ((j, y) :: bx) = true := fun y c h => by
    cases c with
    | sv c => exact anyS y h
    | tup l => exact List.all_eq_true.2 fun c hc => anyS y (List.all_eq_true.1 h c hc)
  obtain ⟨H, hR, hO, hr4⟩ := hr3.fixAlone (List.all_eq_true.2 fun p hp => anyL _ (List.all_eq_true.1 hs p hp)) (by
    rw [List.all_cons, Bool.and_eq_true]
    refine ⟨?_, List.all_eq_true.2 fun p hp => ?_⟩
    · show (A ++ .val _ :: B).all _ = true
      rw [List.all_append, List.all_cons, Bool.and_eq_true, Bool.and_eq_true]
      exact ⟨List.all_eq_true.2 fun c hc => any _ (List.all_eq_true.1 hA c hc), rfl, List.all_eq_true.2 fun c hc => any _ (List.all_eq_true.1 hB c hc)⟩
    · have := List.all_eq_true.1 hb p hp
      cases hp2 : p.2 with
      | none => rfl
      | some b =>
        rw [hp2] at this
        exact List.all_eq_true.2 fun c hc => any _ (List.all_eq_true.1 this c hc)) (by
    simp only [look, hjk]
    exact hk)
  exact ⟨ι k, H, cap, hR, hO, hc, hf, hr4⟩
theorem Leads.fixCell {Mid : St → Prop} {s : List (Nat × LV)} {bx : List (Nat × Option Box)} {j k off len sz : Nat} {e e2 : TypeId} {A B cs : List CV} {row : Bool} {R : Rsc}
    (hs : s.all (fun p => p.2.inUse ((j, none) :: bx)) = true) (hA : A.all (CV.inUse ((j, none) :: bx)) = true) (hB : B.all (CV.inUse ((j, none) :: bx)) = true) (hb : bx.all (fun p => match p.2 with | some b => b.cells.all (CV.inUse ((j, none) :: bx)) | none => true) = true) (hk : look k bx = none) (hjk : Nat.beq j k = false)
    (h : ∀ (ρ : Nat × Nat) (H : Nat → Option Obj) (cap : Nat), R.holds ρ H → OwnedM C X H → len ≤ cap → off + cap * sz ≤ ρ.2 → Leads n C Mid ⟨s, (j, some ⟨e2, A ++ .val (.slice (some ⟨ρ.1, off, none⟩) len cap) :: B, row⟩) :: bx, joinM X H⟩) :
    Leads n C Mid ⟨s, (j, some ⟨e2, A ++ .slc k off len sz :: B, row⟩) :: (k, some ⟨e, cs, .res R⟩) :: bx, X⟩ := ⟨fun ι a w hr => by
  obtain ⟨ρ, H, cap, h1, h2, h3, h4, h5⟩ := hr.fixCell hs hA hB hb hk hjk
  exact (h ρ H cap h1 h2 h3 h4).out ι a w h5⟩
theorem LWP.fixCell {s : List (Nat × LV)} {bx : List (Nat × Option Box)} {j k off len sz : Nat} {e e2 : TypeId} {A B cs : List CV} {row : Bool} {R : Rsc}
    (hs : s.all (fun p => p.2.inUse ((j, none) :: bx)) = true) (hA : A.all (CV.inUse ((j, none) :: bx)) = true) (hB : B.all (CV.inUse ((j, none) :: bx)) = true) (hb : bx.all (fun p => match p.2 with | some b => b.cells.all (CV.inUse ((j, none) :: bx)) | none => true) = true) (hk : look k bx = none) (hjk : Nat.beq j k = false)
    (h : ∀ (ρ : Nat × Nat) (H : Nat → Option Obj) (cap : Nat), R.holds ρ H → OwnedM C X H → len ≤ cap → off + cap * sz ≤ ρ.2 → LWP P n C c Q ⟨s, (j, some ⟨e2, A ++ .val (.slice (some ⟨ρ.1, off, none⟩) len cap) :: B, row⟩) :: bx, joinM X H⟩) :
    LWP P n C c Q ⟨s, (j, some ⟨e2, A ++ .slc k off len sz :: B, row⟩) :: (k, some ⟨e, cs, .res R⟩) :: bx, X⟩ := by
  refine ⟨fun ι a w hr => ?_⟩
  obtain ⟨ρ, H, cap, h1, h2, h3, h4, h5⟩ := hr.fixCell hs hA hB hb hk hjk
  exact (h ρ H cap h1 h2 h3 h4).out ι a w h5
end
end Go.Lg
end
section
namespace Go.Proofs.Ytjifibloagkeeaa
open Go Go.Lg Go.Lg.Fld Go.Lg.Sg
set_option maxRecDepth 100000
variable (X : Nat → Option Obj)
end Go.Proofs.Ytjifibloagkeeaa
end
section
namespace Go.Proofs.Ytjifibloagkeeaa
open Go Go.Lg Go.Lg.Fld Go.Lg.Sg
set_option maxRecDepth 100000
variable (X : Nat → Option Obj)
end Go.Proofs.Ytjifibloagkeeaa
end
section
namespace Go.Proofs.Ytjifibloagkeeaa
open Go Go.Lg Go.Lg.Fld Go.Lg.Sg
set_option maxRecDepth 100000
theorem PartsH.set {H : Nat → Option Obj} {ws : List Value} {ps : List Pt} (G : PartsH H ws ps) {i : Nat} {w : Value} {p : Pt} (hv : ∃ (vad : Option Addr) (vcap : Nat), w = .slice vad p.val.length vcap ∧ NumsIn H vad p.val) : PartsH H (ws.set i w) (ps.set i p) := ⟨by rw [List.length_set, List.length_set, G.len], fun j x d hw hd => by
  rw [List.getElem?_set] at hw hd
  by_cases c : i = j
  · rw [if_pos c] at hw hd
    by_cases c2 : j < ws.length
    · have c3 : j < ps.length := by rw [← G.len]; exact c2
      rw [if_pos (by omega)] at hw hd
      cases hw; cases hd
      exact hv
    · rw [if_neg (by omega)] at hw; cases hw
  · rw [if_neg c] at hw hd
    exact G.at_ j x d hw hd⟩
variable (X : Nat → Option Obj)
end Go.Proofs.Ytjifibloagkeeaa
end
section
namespace Go.Lg.Col
open Go Go.Lg Go.RowKit
abbrev Ext (X Y : Nat → Option Obj) : Prop := ∀ b o, X b = some o → Y b = some o
theorem more {X Y : Nat → Option Obj} (hXY : Ext X Y) {ad : Option Addr} {vs : List Value} (h : OneIn X ad vs) : OneIn Y ad vs := fun i v hi => by
  obtain ⟨blk, off, arr, el, fr, h1, h2, h3⟩ := h i v hi
  exact ⟨blk, off, arr, el, fr, h1, hXY _ _ h2, h3⟩
theorem snoc {α : Type} {l : List α} {i : Nat} {f : α} (h : l[i]? = some f) : l.take (i + 1) = l.take i ++ [f] := by
  obtain ⟨hi, e⟩ := List.getElem?_eq_some_iff.1 h
  rw [List.take_add_one, h]; rfl
def swapL (L : List (List UInt8)) (i : Nat) : List (List UInt8) := match L[L.length - 1]? with | some l => (L.set i l).take (L.length - 1) | none => L
theorem swapL_at {L : List (List UInt8)} {i : Nat} {l : List UInt8} (h : L[L.length - 1]? = some l) : swapL L i = (L.set i l).take (L.length - 1) := by unfold swapL; rw [h]
end Go.Lg.Col
namespace Go.Proofs.Ytjifibloagkeeaa
open Go Go.Lg Go.Lg.Col
set_option maxRecDepth 100000
variable (X : Nat → Option Obj)
end Go.Proofs.Ytjifibloagkeeaa
end
section
namespace Go.Proofs.Ytjifibloagkeeaa
open Go Go.Lg Go.Lg.Col
set_option maxRecDepth 100000
variable (X : Nat → Option Obj)
end Go.Proofs.Ytjifibloagkeeaa
end
section
namespace Go.Lg.Col
open Go Go.Lg
def byV (l : List UInt8) : List Value := l.map fun c => .int .u8 (c.toNat : Nat)
theorem byV_len (l : List UInt8) : (byV l).length = l.length := List.length_map _
theorem mid_of {α : Type} {l : List α} {i : Nat} {x : α} (h : l[i]? = some x) : l = l.take i ++ x :: l.drop (i + 1) := by
  obtain ⟨hi, e⟩ := List.getElem?_eq_some_iff.1 h
  rw [← e, List.getElem_cons_drop, List.take_append_drop]
theorem splice_len {α : Type} {b : List α} {p : Nat} {r : List α} (h : p + r.length ≤ b.length) : (splice b p r).length = b.length := by
  unfold splice; simp only [List.length_append, List.length_take, List.length_drop]; omega
theorem splice_at {α : Type} {b : List α} {p : Nat} {r : List α} (h : p + r.length ≤ b.length) : ((splice b p r).drop p).take r.length = r := by
  unfold splice
  have hp : (b.take p).length = p := by rw [List.length_take]; omega
  rw [List.append_assoc]
  conv => lhs; arg 2; arg 1; rw [← hp]
  rw [List.drop_left, List.take_left]
theorem splice_out {α : Type} {b : List α} {p k : Nat} {r : List α} (h : p + r.length ≤ b.length) (hk : k < p ∨ p + r.length ≤ k) : (splice b p r)[k]? = b[k]? := by
  unfold splice
  have hp : (b.take p).length = p := by rw [List.length_take]; omega
  rcases hk with hk | hk
  · rw [List.append_assoc, List.getElem?_append_left (by omega), List.getElem?_take, if_pos hk]
  · rw [List.getElem?_append_right (by rw [List.length_append]; omega), List.length_append, hp, List.getElem?_drop]
    congr 1; omega
def rowOf (B : List (List UInt8)) (z i : Nat) : List UInt8 := ((B.getD (i / 16) []).drop (i % 16 * z)).take z
theorem place_fit (i z : Nat) : i % 16 * z + z ≤ 16 * z := by
  have h : (i % 16 + 1) * z ≤ 16 * z := Nat.mul_le_mul_right z (by omega)
  rw [Nat.succ_mul] at h; exact h
theorem getD_at {α : Type} {B : List α} {p : Nat} {d : α} (h : p < B.length) : B[p]? = some (B.getD p d) := by
  rw [List.getD_eq_getElem?_getD, List.getElem?_eq_getElem h]; rfl
theorem wide_at {B : List (List UInt8)} {w p : Nat} (hw : ∀ b ∈ B, b.length = w) (h : p < B.length) : (B.getD p []).length = w := hw _ (List.mem_of_getElem? (getD_at h))
def wr (B : List (List UInt8)) (z i : Nat) (row : List UInt8) : List (List UInt8) := B.set (i / 16) (splice (B.getD (i / 16) []) (i % 16 * z) row)
theorem wr_len (B : List (List UInt8)) (z i : Nat) (row : List UInt8) : (wr B z i row).length = B.length := List.length_set ..
theorem wr_wide {B : List (List UInt8)} {z i : Nat} {row : List UInt8} (hw : ∀ b ∈ B, b.length = 16 * z) (hi : i / 16 < B.length) (hr : row.length = z) : ∀ b ∈ wr B z i row, b.length = 16 * z := fun b hb => by
  rcases List.mem_or_eq_of_mem_set hb with hb | rfl
  · exact hw b hb
  · have := place_fit i z
    rw [splice_len (by rw [wide_at hw hi, hr]; omega), wide_at hw hi]
theorem wr_same {B : List (List UInt8)} {z i : Nat} {row : List UInt8} (hw : ∀ b ∈ B, b.length = 16 * z) (hi : i / 16 < B.length) (hr : row.length = z) : rowOf (wr B z i row) z i = row := by
  unfold rowOf wr
  have := place_fit i z
  rw [List.getD_eq_getElem?_getD, List.getElem?_set_self hi, Option.getD_some]
  conv => lhs; arg 1; rw [← hr]
  rw [hr]
  have h := splice_at (b := B.getD (i / 16) []) (p := i % 16 * z) (r := row) (by rw [wide_at hw hi, hr]; omega)
  rw [hr] at h; exact h
theorem wr_other {B : List (List UInt8)} {z i j : Nat} {row : List UInt8} (hw : ∀ b ∈ B, b.length = 16 * z) (hi : i / 16 < B.length) (hr : row.length = z) (hj : j ≠ i) : rowOf (wr B z i row) z j = rowOf B z j := by
  unfold rowOf wr
  have hf := place_fit i z
  by_cases e : i / 16 = j / 16
  · rw [← e, List.getD_eq_getElem?_getD, List.getElem?_set_self hi, Option.getD_some]
    apply List.ext_getElem?
    intro t
    rw [List.getElem?_take, List.getElem?_take]
    by_cases ht : t < z
    · rw [if_pos ht, if_pos ht, List.getElem?_drop, List.getElem?_drop]
      refine splice_out (by rw [wide_at hw hi, hr]; omega) ?_
      rw [hr]
      have hne : j % 16 ≠ i % 16 := fun h => hj (by omega)
      rcases Nat.lt_or_gt_of_ne hne with h | h
      · left
        have h2 : (j % 16 + 1) * z ≤ i % 16 * z := Nat.mul_le_mul_right z h
        rw [Nat.succ_mul] at h2; omega
      · right
        have h2 : (i % 16 + 1) * z ≤ j % 16 * z := Nat.mul_le_mul_right z h
        rw [Nat.succ_mul] at h2; omega
    · rw [if_neg ht, if_neg ht]
  · rw [List.getD_eq_getElem?_getD, List.getElem?_set_ne e, ← List.getD_eq_getElem?_getD]
structure Packed (z q : Nat) (L B : List (List UInt8)) : Prop where
  nb : B.length = (L.length + 15) / 16
  wide : ∀ b ∈ B, b.length = 16 * z
  row : ∀ (i : Nat) (l : List UInt8), L[i]? = some l → rowOf B z i = l
  rows : ∀ r ∈ L, r.length = z
  fit : L.length ≤ q
  small : z ≤ 256 ∧ q ≤ 65536
section
variable {z q : Nat} {L B : List (List UInt8)}
theorem Packed.nil (h : z ≤ 256 ∧ q ≤ 65536) : Packed z q [] [] := ⟨rfl, fun b hb => (by cases hb), fun i l hl => (by cases hl), fun b hb => (by cases hb), Nat.zero_le _, h⟩
theorem Packed.chunk (h : Packed z q L B) {i : Nat} (hi : i < L.length) : i / 16 < B.length := by rw [h.nb]; omega
theorem Packed.len_at (h : Packed z q L B) {p : Nat} (hp : p < B.length) : (B.getD p []).length = 16 * z := wide_at h.wide hp
theorem Packed.set (h : Packed z q L B) {i : Nat} (hi : i < L.length) {row : List UInt8} (hr : row.length = z) : Packed z q (L.set i row) (wr B z i row) := by
  have hp := h.chunk hi
  refine ⟨by rw [wr_len, List.length_set]; exact h.nb, wr_wide h.wide hp hr, fun j l hl => ?_, fun r hr' => ?_, by rw [List.length_set]; exact h.fit, h.small⟩
  · by_cases e : j = i
    · subst e
      rw [List.getElem?_set_self hi] at hl
      simp only [Option.some.injEq] at hl
      rw [wr_same h.wide hp hr, hl]
    · rw [List.getElem?_set_ne (fun e' => e e'.symm)] at hl
      rw [wr_other h.wide hp hr e]; exact h.row j l hl
  · rcases List.mem_or_eq_of_mem_set hr' with hr' | rfl
    · exact h.rows r hr'
    · exact hr
theorem Packed.push (h : Packed z q L B) {row : List UInt8} (hr : row.length = z) (hf : L.length < q) (hn : L.length % 16 ≠ 0) : Packed z q (L ++ [row]) (wr B z L.length row) := by
  have hp : L.length / 16 < B.length := by rw [h.nb]; omega
  refine ⟨by rw [wr_len, List.length_append, h.nb]; simp only [List.length_singleton]; omega, wr_wide h.wide hp hr, fun j l hl => ?_, fun r hr' => ?_, by rw [List.length_append]; exact hf, h.small⟩
  · by_cases e : j = L.length
    · subst e
      rw [List.getElem?_append_right (Nat.le_refl _), Nat.sub_self] at hl
      simp only [List.getElem?_cons_zero, Option.some.injEq] at hl
      rw [wr_same h.wide hp hr, hl]
    · have h1 := (List.getElem?_eq_some_iff.1 hl).1
      rw [List.length_append] at h1
      simp only [List.length_singleton] at h1
      rw [List.getElem?_append_left (by omega)] at hl
      rw [wr_other h.wide hp hr e]; exact h.row j l hl
  · rcases List.mem_append.1 hr' with hr' | hr'
    · exact h.rows r hr'
    · rw [List.mem_singleton.1 hr']; exact hr
theorem Packed.take (h : Packed z q L B) {n : Nat} (hn : n ≤ L.length) : Packed z q (L.take n) (B.take ((n + 15) / 16)) := by
  refine ⟨by rw [List.length_take, List.length_take, h.nb]; omega, fun b hb => h.wide b (List.mem_of_mem_take hb), fun j l hl => ?_, fun r hr => h.rows r (List.mem_of_mem_take hr), by have := h.fit; rw [List.length_take]; omega, h.small⟩
  rw [List.getElem?_take] at hl
  split at hl
  · rw [← h.row j l hl]
    unfold rowOf
    rw [List.getD_eq_getElem?_getD, List.getElem?_take, if_pos (by omega), ← List.getD_eq_getElem?_getD]
  · cases hl
theorem Packed.swap (h : Packed z q L B) {i : Nat} (hi : i < L.length) {l : List UInt8} (hl : L[L.length - 1]? = some l) : Packed z q (swapL L i) ((wr B z i l).take ((L.length - 1 + 15) / 16)) := by
  rw [swapL_at hl]
  exact (h.set hi (h.rows l (List.mem_of_getElem? hl))).take (by rw [List.length_set]; omega)
end
structure ColIn (H : Nat → Option Obj) (st : TypeId) (z q : Nat) (L B : List (List UInt8)) (v : Value) (cells : List Value) : Prop where
  grid : Grid H st 5 v cells (B.map byV)
  pk : Packed z q L B
section
variable {H : Nat → Option Obj} {st : TypeId} {z q : Nat} {L B : List (List UInt8)} {v : Value} {cells : List Value}
theorem ColIn.len (h : ColIn H st z q L B v cells) : cells.length = B.length := by rw [h.grid.len, List.length_map]
theorem ColIn.slice (h : ColIn H st z q L B v cells) : ∃ ad cap, v = .slice ad B.length cap := by
  rcases h.grid with ⟨db, hd, G⟩ | ⟨rfl, rfl, hb⟩
  · obtain ⟨len, cap, arr, fr, rfl, h2, _⟩ := hd
    rw [h.len] at h2
    have e : len = B.length := by omega
    rw [e]; exact ⟨_, _, rfl⟩
  · have : B.length = 0 := by rw [← List.length_map (f := byV), hb]; rfl
    rw [this]; exact ⟨none, 0, rfl⟩
theorem ColIn.place (h : ColIn H st z q L B v cells) {p : Nat} (hp : p < B.length) : ∃ (db cap : Nat) (arr : Array Value) (fr : Nat × Nat) (b cap2 : Nat) (arr2 : Array Value) (fr2 : Nat × Nat) (sp : List Value),
    v = .slice (some ⟨db, 0, none⟩) B.length cap ∧ H db = some (.cells arr st fr) ∧ arr[p]? = some (.slice (some ⟨b, 0, none⟩) (16 * z) cap2) ∧ 16 * z ≤ cap2 ∧ H b = some (.cells arr2 5 fr2) ∧ arr2.toList = byV (B.getD p []) ++ sp := by
  obtain ⟨db, hd, G⟩ := h.grid.real (fun e => by
    have : B.length = 0 := by rw [← List.length_map (f := byV), e]; rfl
    omega)
  obtain ⟨len, cap, arr, fr, rfl, h2, h3, h4, h5, spd, h6⟩ := hd
  rw [h.len] at h2
  have e : len = B.length := by omega
  subst e
  obtain ⟨c, hc⟩ : ∃ c, cells[p]? = some c := ⟨_, List.getElem?_eq_getElem (by rw [h.len]; exact hp)⟩
  obtain ⟨b, hb⟩ := G.at_ p c (byV (B.getD p [])) (by simp) hc (by rw [List.getElem?_map, getD_at (d := []) hp]; rfl)
  obtain ⟨len2, cap2, arr2, fr2, rfl, g2, g3, g4, g5, sp, g6⟩ := hb
  rw [byV_len, h.pk.len_at hp] at g2
  have e : len2 = 16 * z := by omega
  subst e
  refine ⟨db, cap, arr, fr, b, cap2, arr2, fr2, sp, rfl, h5, ?_, g3, (cutM_some g5).2, g6⟩
  rw [← Array.getElem?_toList, h6, List.getElem?_append_left (List.getElem?_eq_some_iff.1 hc).1]; exact hc
end
end Go.Lg.Col
namespace Go.Proofs.Ytjifibloagkeeaa
open Go Go.Lg Go.Lg.Col
set_option maxRecDepth 100000
def stV (z q n : Nat) (v : Value) : List Value := [.int .i64 (z : Nat), .int .i64 (q : Nat), .int .i64 (n : Nat), v]
def colR (z q : Nat) (L : List (List UInt8)) : Rsc := ⟨fun ρ H => ρ.2 = 4 ∧ ∃ (fr : Nat × Nat) (v : Value) (cells : List Value) (B : List (List UInt8)),
  H ρ.1 = some (.cells (stV z q L.length v).toArray 107 fr) ∧ ColIn (cutM H ρ.1) 130 z q L B v cells⟩
abbrev cB (k size cap : Nat) (L : List (List UInt8)) : Nat × Option Box := (k, some ⟨0, [], .res (colR size cap L)⟩)
abbrev sB (k z q n : Nat) (v : CV) : Nat × Option Box := (k, some ⟨107, [.val (.int .i64 (z : Nat)), .val (.int .i64 (q : Nat)), .val (.int .i64 (n : Nat)), v], false⟩)
section
variable {P : Program} {n : Nat} {C : Ctx} {c : Code} {Q : Exit → St → Prop} {X : Nat → Option Obj} {s : List (Nat × LV)} {bx : List (Nat × Option Box)} {k : Nat}
theorem col_shut {Mid : St → Prop} {z q : Nat} {L B : List (List UInt8)} {H : Nat → Option Obj} {v : Value} {cells : List Value} (hO : OwnedM C X H) (hI : ColIn H 130 z q L B v cells)
    (h : Leads n C Mid ⟨s, cB k z q L :: bx, X⟩) : Leads n C Mid ⟨s, sB k z q L.length (.val v) :: bx, joinM X H⟩ := by
  refine Leads.closeRes (vals := stV z q L.length v) hO (fun ρ fr h1 h2 h3 => ?_) h
  refine ⟨h3, fr, v, cells, B, withBlock_at _ _ _, ?_⟩
  rw [cut_with h1]; exact hI
end
end Go.Proofs.Ytjifibloagkeeaa
end
section
namespace Go.Proofs.Ytjifibloagkeeaa
open Go Go.Lg Go.Lg.Col
set_option maxRecDepth 100000
variable (X : Nat → Option Obj)
theorem cNew_ok (size cap : Nat) (hs : size ≤ 256) (h1 : 1 ≤ cap) (hc : cap ≤ 65536) : MSpec Try.prog X 36 [Ln .i64 (size : Nat), Ln .i64 (cap : Nat)] [] (Lp 1000001) [cB 1000001 size cap []] := by
  refine MSpec.intro Try.func36 rfl (by kernel_rfl) rfl rfl (by exact (by repeat' (first | refine all_cons_true ?_ ?_ | rfl | exact bytes_inUse | exact vals_inUse | exact mid_inUse rfl))) rfl rfl ?_
  intro C
  refine LWP.ends ?_
  (refine LWP.seq <| LWP.region (by kernel_rfl) <| kas rfl <| RunK.nil <| LWP.seq <| LWP.seq <| LWP.region (by kernel_rfl) <| kmv rfl <| klt rfl rfl (decide_eq_false (by omega)) <| kmv rfl <| gmv rfl rfl rfl <| K.gtr rfl rfl (decide_eq_false (by omega)) (.taken rfl rfl) ?_; refine kpf rfl rfl <| kmv rfl <| gmv rfl rfl rfl <| K.lss rfl rfl (decide_eq_false (by omega)) (.taken rfl rfl) ?_; refine kpf rfl rfl <| kmv rfl <| gmv rfl rfl rfl <| K.gtr rfl rfl (decide_eq_false (by omega)) (.taken rfl rfl) ?_; refine kpf rfl rfl <| RunK.nil <| LWP.condF rfl ?_; refine LWP.skip ?_; refine LWP.seq <| LWP.region (by kernel_rfl) <| kmv rfl <| kmv rfl <| K.build rfl rfl (by exact rfl) (by exact nl4 rfl rfl rfl rfl rfl) .plain ?_; refine K.box rfl rfl rfl .plain <| kas rfl <| RunK.nil <| LWP.ret ?_)
  refine Leads.le (σ' := ⟨[(4, Lp 22)], [sB 22 size cap ([] : List (List UInt8)).length (.val (.slice none 0 0))], joinM X (fun _ => none)⟩) (by rw [joinM_nil]; exact Le.of (by exact ⟨rfl, trivial⟩) (by exact ⟨rfl, trivial⟩) (by exact rfl) (by exact rfl) (by repeat' (first | refine all_cons_true ?_ ?_ | rfl | exact bytes_inUse | exact vals_inUse | exact mid_inUse rfl))) ?_
  refine col_shut (cells := []) (B := []) (OwnedM.nil C X) ⟨Grid.empty _ _ _, Packed.nil ⟨hs, hc⟩⟩ (Leads.done ?_)
  exact ⟨[(1000001, 22)], ⟨[_], ⟨rfl, trivial⟩, rfl⟩, (by repeat' (first | exact trivial | refine And.intro ⟨_, rfl, ?_⟩ ?_ | refine And.intro ⟨_, rfl⟩ ?_ | rfl | exact Box.ren_bytes _ _ _ _ | exact Box.ren_vals _ _ _ _ | exact Box.ren_mid rfl)), rfl, rfl⟩
end Go.Proofs.Ytjifibloagkeeaa
end
section
namespace Go.Lg.Col
open Go Go.Lg
end Go.Lg.Col
namespace Go.Proofs.Ytjifibloagkeeaa
open Go Go.Lg Go.Lg.Col
set_option maxRecDepth 100000
variable (X : Nat → Option Obj)
end Go.Proofs.Ytjifibloagkeeaa
end
section
namespace Go.Proofs.Ytjifibloagkeeaa
open Go Go.Lg Go.Lg.Col
set_option maxRecDepth 100000
section
variable {n : Nat} {C : Ctx} {X : Nat → Option Obj} {s : List (Nat × LV)}
end
variable (X : Nat → Option Obj)
end Go.Proofs.Ytjifibloagkeeaa
end
section
namespace Go.Proofs.Ytjifibloagkeeaa
open Go Go.Lg Go.Lg.Col
set_option maxRecDepth 100000
variable (X : Nat → Option Obj)
end Go.Proofs.Ytjifibloagkeeaa
end
section
namespace Go.Lg.Col
open Go Go.Lg
theorem joinM_keeps {C : Ctx} {Y H : Nat → Option Obj} (hO : OwnedM C Y H) {b : Nat} {o : Obj} (h : Y b = some o) : joinM Y H b = some o := by
  cases hb : H b with
  | none => rw [joinM_out hb]; exact h
  | some o' => have := (hO.own b o' hb).2.2; rw [this] at h; cases h
theorem fill_put {α : Type} {l : List α} {m i : Nat} {z x : α} (hl : l.length = i) (hi : i < m) : (l ++ List.replicate (m - i) z).set i x = l ++ x :: List.replicate (m - (i + 1)) z := by
  rw [List.set_append_right _ _ (by omega), hl, Nat.sub_self, show m - i = (m - (i + 1)) + 1 by omega, List.replicate_succ]; rfl
end Go.Lg.Col
namespace Go.Proofs.Ytjifibloagkeeaa
open Go Go.Lg Go.Lg.Col
set_option maxRecDepth 100000
variable (X : Nat → Option Obj)
end Go.Proofs.Ytjifibloagkeeaa
end
section
namespace Go.Proofs.Ytjifibloagkeeaa
open Go Go.Lg Go.Lg.Col
set_option maxRecDepth 100000
variable (X : Nat → Option Obj)
end Go.Proofs.Ytjifibloagkeeaa
end
section
namespace Go.Lg.Sg
open Go Go.Lg
def digS (n : Int) (c : UInt8) : Option Int := if c.toNat < 48 ∨ 57 < c.toNat ∨ n = 0 ∨ 99 < n ∨ (n < 0 ∧ c.toNat = 48) then none else some ((if n < 0 then 0 else n) * 10 + ((c.toNat : Int) - 48))
def sepS (q : List Int × Int) : Option (List Int × Int) := if q.2 < 1 ∨ 24 < q.2 ∨ (q.1.getLast?.any fun y => decide (q.2 ≤ y)) = true then none else some (q.1 ++ [q.2], -1)
def chS (q : List Int × Int) (c : UInt8) : Option (List Int × Int) := if c = 43 then sepS q else (digS q.2 c).map fun n => (q.1, n)
def runS (q : List Int × Int) (s : List UInt8) : Option (List Int × Int) := s.foldlM chS q
def parseA (s : List UInt8) : Option Nat := if s = [45] then some 0 else ((runS ([], -1) s).bind sepS).map fun q => ofN q.1
def rising (l : List Int) : Prop := l.Pairwise (fun x y => x < y)
theorem rising_snoc {l : List Int} {x : Int} : rising (l ++ [x]) ↔ rising l ∧ ∀ y, l.getLast? = some y → y < x := by
  unfold rising
  rw [List.pairwise_append]
  constructor
  · rintro ⟨h1, _, h3⟩
    exact ⟨h1, fun y hy => h3 y (List.mem_of_getLast? hy) x (List.mem_singleton.2 rfl)⟩
  · rintro ⟨h1, h2⟩
    refine ⟨h1, List.pairwise_singleton _ _, fun a ha b hb => ?_⟩
    rw [List.mem_singleton.1 hb]
    rcases List.eq_nil_or_concat l with rfl | ⟨l', y, rfl⟩
    · cases ha
    · have hy := h2 y (by simp)
      rw [List.concat_eq_append] at h1 ha
      rw [List.pairwise_append] at h1
      rcases List.mem_append.1 ha with h | h
      · have := h1.2.2 a h y (List.mem_singleton.2 rfl)
        omega
      · rw [List.mem_singleton.1 h]; exact hy
def preT (ids : List Int) : List UInt8 := (txF ids).1 ++ if ids = [] then [] else [43]
def digT (n : Int) : List UInt8 := if n < 0 then [] else Lib.itoa n
structure Rd (p : List UInt8) (q : List Int × Int) : Prop where
  text : p = preT q.1 ++ digT q.2
  ids : ∀ y ∈ q.1, 1 ≤ y ∧ y ≤ 24
  rise : rising q.1
  num : q.2 = -1 ∨ (1 ≤ q.2 ∧ q.2 ≤ 999)
theorem preT_snoc (l : List Int) (x : Int) : (txF (l ++ [x])).1 = preT l ++ Lib.itoa x := by
  have hfl := txF_flag l
  have hs : txF (l ++ [x]) = txStep (txF l) x := by
    unfold txF
    rw [List.foldl_append]
    rfl
  rw [hs]
  unfold txStep preT
  rw [hfl]
  cases l with
  | nil => rfl
  | cons y t =>
    rw [if_pos (show (!(y :: t).isEmpty) = true from rfl), if_neg (by simp)]
theorem Rd.sep {p : List UInt8} {q q' : List Int × Int} (h : Rd p q) (hs : sepS q = some q') : q'.2 = -1 ∧ (txF q'.1).1 = p ∧ (∀ y ∈ q'.1, 1 ≤ y ∧ y ≤ 24) ∧ rising q'.1 ∧ q'.1 ≠ [] := by
  unfold sepS at hs
  split at hs
  · cases hs
  · rename_i hno
    simp only [Option.some.injEq] at hs
    subst hs
    obtain ⟨l, n⟩ := q
    simp only [not_or] at hno
    obtain ⟨h1, h2, h3⟩ := hno
    refine ⟨rfl, ?_, ?_, ?_, by simp⟩
    · show (txF (l ++ [n])).1 = p
      rw [preT_snoc, h.text]
      unfold digT
      rw [if_neg (by show ¬n < 0; omega)]
    · intro y hy
      rcases List.mem_append.1 hy with hy | hy
      · exact h.ids y hy
      · rw [List.mem_singleton.1 hy]; omega
    · refine rising_snoc.2 ⟨h.rise, fun y hy => ?_⟩
      rw [show (l, n).1.getLast? = some y from hy] at h3
      simp at h3
      exact h3
theorem Rd.step {p : List UInt8} {q q' : List Int × Int} {c : UInt8} (h : Rd p q) (hs : chS q c = some q') : Rd (p ++ [c]) q' := by
  unfold chS at hs
  split at hs
  · rename_i hc
    obtain ⟨h1, h2, h3, h4, h5⟩ := h.sep hs
    refine ⟨?_, h3, h4, .inl h1⟩
    rw [← h2, h1, hc]
    unfold preT digT
    rw [if_neg h5, if_pos (by decide), List.append_nil]
  · obtain ⟨l, n⟩ := q
    cases hd : digS n c with
    | none => rw [show digS (l, n).2 c = none from hd] at hs; cases hs
    | some m =>
      rw [show digS (l, n).2 c = some m from hd] at hs
      simp only [Option.map_some, Option.some.injEq] at hs
      subst hs
      unfold digS at hd
      split at hd
      · cases hd
      · rename_i hno
        simp only [Option.some.injEq] at hd
        simp only [not_or, not_and] at hno
        obtain ⟨h1, h2, h3, h4, h5⟩ := hno
        have hcb : UInt8.ofNat (48 + (c.toNat - 48)) = c := by
          rw [show 48 + (c.toNat - 48) = c.toNat by omega]
          exact UInt8.ofNat_toNat
        refine ⟨?_, h.ids, h.rise, .inr ?_⟩
        · rw [h.text]
          show preT l ++ digT n ++ [c] = preT l ++ digT m
          rw [List.append_assoc]
          congr 1
          unfold digT
          rcases h.num with e | ⟨e1, e2⟩
          · have e : n = -1 := e
            rw [if_pos (by omega)] at hd
            have hm : m = ((c.toNat - 48 : Nat) : Int) := by omega
            rw [if_pos (by omega), if_neg (by omega), hm]
            unfold Lib.itoa
            rw [if_neg (by omega), show ((c.toNat - 48 : Nat) : Int).toNat = c.toNat - 48 from rfl, Lib.decDigits_one (by omega), hcb]
            rfl
          · have e1 : 1 ≤ n := e1
            rw [if_neg (by omega)] at hd
            rw [if_neg (by omega), if_neg (by omega)]
            obtain ⟨k, rfl⟩ : ∃ k : Nat, n = (k : Nat) := ⟨n.toNat, by omega⟩
            have hm : m = ((k * 10 + (c.toNat - 48) : Nat) : Int) := by omega
            rw [hm]
            unfold Lib.itoa
            rw [if_neg (by omega), if_neg (by omega), show ((k * 10 + (c.toNat - 48) : Nat) : Int).toNat = k * 10 + (c.toNat - 48) from rfl, show (k : Int).toNat = k from rfl]
            conv => rhs; rw [Lib.decDigits, dif_neg (show ¬k * 10 + (c.toNat - 48) < 10 by omega)]
            rw [show (k * 10 + (c.toNat - 48)) / 10 = k by omega, show (k * 10 + (c.toNat - 48)) % 10 = c.toNat - 48 by omega, hcb]
        · show 1 ≤ m ∧ m ≤ 999
          rcases h.num with e | ⟨e1, e2⟩
          · have e : n = -1 := e
            have h5 := h5 (by omega)
            rw [if_pos (by omega)] at hd
            omega
          · have e1 : 1 ≤ n := e1
            rw [if_neg (by omega)] at hd
            omega
theorem Rd.run : ∀ {s p : List UInt8} {q q' : List Int × Int} (_ : Rd p q) (_ : runS q s = some q'), Rd (p ++ s) q' := by
  intro s
  induction s with
  | nil =>
    intro p q q' h hr
    have : q = q' := by simpa [runS] using hr
    rw [← this, List.append_nil]
    exact h
  | cons c t ih =>
    intro p q q' h hr
    unfold runS at hr
    rw [List.foldlM_cons] at hr
    cases hc : chS q c with
    | none => rw [hc] at hr; cases hr
    | some q2 =>
      rw [hc] at hr
      have := ih (h.step hc) hr
      rw [List.append_assoc] at this
      exact this
end Go.Lg.Sg
end
section
namespace Go.Lg.Sg
open Go Go.Lg
end Go.Lg.Sg
namespace Go.Proofs.Ytjifibloagkeeaa
open Go Go.Lg Go.Lg.Fld Go.Lg.Sg
set_option maxRecDepth 100000
variable (X : Nat → Option Obj)
end Go.Proofs.Ytjifibloagkeeaa
end
section
namespace Go.Lg.Sg
open Go Go.Lg Go.Lg.Fld
def withN (a : Nat) (id : Int) : Nat := if okJ id = true then a ||| 2 ^ id.toNat else a
def withoutN (a : Nat) (id : Int) : Nat := if hasB a id = true then a ^^^ 2 ^ id.toNat else a
def withinB (a b : Nat) : Bool := (idsL a).all (hasB b)
def ofE (ids : List Int) : Int := if okIds ids = true then 0 else 1
theorem with_bit {a : Nat} {id : Int} (j : Nat) : (withN a id).testBit j = (a.testBit j || (okJ id && decide (id.toNat = j))) := by
  unfold withN
  by_cases h : okJ id = true
  · rw [if_pos h, Nat.testBit_or, Nat.testBit_two_pow, h, Bool.true_and]
  · rw [if_neg h, show okJ id = false by simpa using h, Bool.false_and, Bool.or_false]
theorem without_bit {a : Nat} {id : Int} (j : Nat) : (withoutN a id).testBit j = (a.testBit j && !(okJ id && decide (id.toNat = j))) := by
  unfold withoutN hasB
  by_cases h : okJ id = true
  · rw [h, Bool.true_and, Bool.true_and]
    by_cases hb : a.testBit id.toNat = true
    · rw [if_pos hb, Nat.testBit_xor, Nat.testBit_two_pow]
      by_cases e : id.toNat = j
      · rw [← e, hb]; simp
      · rw [decide_eq_false e]; simp
    · rw [if_neg hb]
      by_cases e : id.toNat = j
      · rw [← e]; simp at hb; rw [hb]; rfl
      · rw [decide_eq_false e]; simp
  · rw [show okJ id = false by simpa using h]; simp
theorem lt32_of_bits {a : Nat} (h : ∀ j, 32 ≤ j → a.testBit j = false) : a < 4294967296 := Nat.lt_pow_two_of_testBit (n := 32) _ h
theorem bits32 {a : Nat} (h : a < 4294967296) {j : Nat} (hj : 32 ≤ j) : a.testBit j = false := Nat.testBit_lt_two_pow (Nat.lt_of_lt_of_le h (show 2 ^ 32 ≤ 2 ^ j from Nat.pow_le_pow_right (by decide) hj))
theorem with_lt {a : Nat} {id : Int} (h : a < 4294967296) : withN a id < 4294967296 := lt32_of_bits fun j hj => by
  rw [with_bit, bits32 h hj, Bool.false_or]
  by_cases ho : okJ id = true
  · have := okI_iff.1 ho
    rw [decide_eq_false (by omega), Bool.and_false]
  · rw [show okJ id = false by simpa using ho, Bool.false_and]
theorem without_lt {a : Nat} {id : Int} (h : a < 4294967296) : withoutN a id < 4294967296 := lt32_of_bits fun j hj => by
  rw [without_bit, bits32 h hj, Bool.false_and]
end Go.Lg.Sg
end
section
namespace Go.Lg.Sg
open Go Go.Lg Go.Lg.Fld
def allN : Nat := 33554430
theorem allN_bit (j : Nat) : allN.testBit j = (decide (1 ≤ j) && decide (j ≤ 24)) := by
  by_cases h : j < 32
  · have hd : ∀ k : Fin 32, allN.testBit k.val = (decide (1 ≤ k.val) && decide (k.val ≤ 24)) := by decide
    exact hd ⟨j, h⟩
  · rw [Nat.testBit_lt_two_pow (Nat.lt_of_lt_of_le (show allN < 2 ^ 32 by decide) (Nat.pow_le_pow_right (by decide) (by omega))), decide_eq_false (show ¬ j ≤ 24 by omega), Bool.and_false]
theorem nz_bit {x : Nat} : x ≠ 0 ↔ ∃ j, x.testBit j = true := by
  constructor
  · intro h
    by_cases he : ∃ j, x.testBit j = true
    · exact he
    · refine absurd (Nat.eq_of_testBit_eq fun i => ?_) h
      rw [Nat.zero_testBit]
      cases hb : x.testBit i with
      | false => rfl
      | true => exact absurd ⟨i, hb⟩ he
  · rintro ⟨j, hj⟩ rfl
    rw [Nat.zero_testBit] at hj
    cases hj
theorem ne0_is {x : Nat} {b : Bool} (h : b = true ↔ ∃ j, x.testBit j = true) : ((((x : Nat) : Int) != 0)) = b := by
  rw [Bool.eq_iff_iff, bne_iff_ne, h, ← nz_bit]
  omega
theorem eq0_is {x : Nat} {b : Bool} (h : b = false ↔ ∃ j, x.testBit j = true) : ((((x : Nat) : Int) == 0)) = b := by
  rw [← nz_bit] at h
  by_cases hx : x = 0
  · subst hx
    cases b with
    | true => rfl
    | false => exact absurd rfl (h.1 rfl)
  · rw [h.2 hx, beq_eq_false_iff_ne.2 (by omega)]
theorem andN_32 {a b : Nat} (ha : a < 4294967296) (hb : b < 4294967296) : bits .and .u32 ((a : Nat) : Int) ((b : Nat) : Int) = ((a &&& b : Nat) : Int) := u32_and_nat _ _ ha hb
theorem orN_32 {a b : Nat} (ha : a < 4294967296) (hb : b < 4294967296) : bits .or .u32 ((a : Nat) : Int) ((b : Nat) : Int) = ((a ||| b : Nat) : Int) := u32_or_nat _ _ ha hb
theorem notN_bit (a b i : Nat) : (a ^^^ (a &&& b)).testBit i = (a.testBit i && !b.testBit i) := by
  rw [Nat.testBit_xor, Nat.testBit_and]
  cases a.testBit i <;> cases b.testBit i <;> rfl
theorem notN_lt {a b : Nat} (ha : a < 4294967296) : a ^^^ (a &&& b) < 4294967296 := lt32_of_bits fun j hj => by
  rw [notN_bit, bits32 ha hj, Bool.false_and]
theorem notN_bits {a b : Nat} (ha : a < 4294967296) : (BitVec.ofNat 32 a &&& ~~~ BitVec.ofNat 32 b).toNat = a ^^^ (a &&& b) := by
  apply Nat.eq_of_testBit_eq
  intro i
  rw [BitVec.testBit_toNat, BitVec.getLsbD_and, BitVec.getLsbD_not, BitVec.getLsbD_ofNat, BitVec.getLsbD_ofNat, notN_bit]
  by_cases hi : i < 32
  · simp [hi]
  · have h := bits32 ha (show 32 ≤ i by omega)
    simp [hi, h]
theorem notN_32 {a b : Nat} (ha : a < 4294967296) : bits .andNot .u32 ((a : Nat) : Int) ((b : Nat) : Int) = ((a ^^^ (a &&& b) : Nat) : Int) := by
  have h1 : bits .andNot .u32 ((a : Nat) : Int) ((b : Nat) : Int) = IntKind.u32.wrap (((BitVec.ofNat 32 a &&& ~~~ BitVec.ofNat 32 b).toNat : Nat) : Int) := rfl
  rw [h1, notN_bits ha]
  have := notN_lt (b := b) ha
  exact wrap_u32 ⟨Int.natCast_nonneg _, by omega⟩
def bitN (id : Int) : Nat := if okJ id = true then 2 ^ id.toNat else 0
theorem bitN_bit (id : Int) (j : Nat) : (bitN id).testBit j = (okJ id && decide (id.toNat = j)) := by
  unfold bitN
  by_cases h : okJ id = true
  · rw [if_pos h, h, Nat.testBit_two_pow, Bool.true_and]
  · rw [if_neg h, show okJ id = false by simpa using h, Nat.zero_testBit, Bool.false_and]
theorem bitN_lt (id : Int) : bitN id < 4294967296 := lt32_of_bits fun j hj => by
  rw [bitN_bit]
  by_cases ho : okJ id = true
  · have := okI_iff.1 ho
    rw [decide_eq_false (by omega), Bool.and_false]
  · rw [show okJ id = false by simpa using ho, Bool.false_and]
theorem shl_bit {id : Int} (h : okJ id = true) : IntKind.u32.wrap (1 * 2 ^ (min id.toNat IntKind.u32.bits)) = ((bitN id : Nat) : Int) := by
  have hi := okI_iff.1 h
  have hm : min id.toNat IntKind.u32.bits = id.toNat := by
    show min id.toNat 32 = id.toNat
    omega
  have hb := bitN_lt id
  have he : bitN id = 2 ^ id.toNat := if_pos h
  rw [he] at hb ⊢
  rw [hm, Int.one_mul, show ((2 : Int) ^ id.toNat) = ((2 ^ id.toNat : Nat) : Int) by rw [Int.natCast_pow]; rfl]
  exact wrap_u32 ⟨Int.natCast_nonneg _, by omega⟩
theorem is_bits {a : Nat} (ha : a < 4294967296) : ((((a ^^^ (a &&& allN) : Nat) : Int)) == 0) = isB a := by
  refine eq0_is ?_
  constructor
  · intro h
    have hn : ¬ isB a = true := by rw [h]; decide
    rw [isB_iff] at hn
    simp only [Classical.not_forall] at hn
    obtain ⟨i, hi, hb, hno⟩ := hn
    refine ⟨i, ?_⟩
    rw [notN_bit, hb, allN_bit]
    by_cases h1 : 1 ≤ i
    · rw [decide_eq_false (show ¬ i ≤ 24 by omega), Bool.and_false]; rfl
    · rw [decide_eq_false h1]; rfl
  · rintro ⟨j, hj⟩
    rw [notN_bit, allN_bit, Bool.and_eq_true] at hj
    cases hb : isB a with
    | false => rfl
    | true =>
      rw [isB_iff] at hb
      have hj32 : j < 32 := by
        by_cases h : j < 32
        · exact h
        · rw [bits32 ha (by omega)] at hj; cases hj.1
      obtain ⟨h1, h2⟩ := hb j hj32 hj.1
      rw [decide_eq_true h1, decide_eq_true h2] at hj
      cases hj.2
theorem has_bits (a : Nat) (id : Int) : ((((a &&& bitN id : Nat) : Int)) != 0) = hasB a id := by
  refine ne0_is ?_
  unfold hasB
  constructor
  · intro h
    rw [Bool.and_eq_true] at h
    exact ⟨id.toNat, by rw [Nat.testBit_and, bitN_bit, h.1, h.2, decide_eq_true rfl]; rfl⟩
  · rintro ⟨j, hj⟩
    rw [Nat.testBit_and, bitN_bit, Bool.and_eq_true, Bool.and_eq_true] at hj
    obtain ⟨h1, h2, h3⟩ := hj
    rw [h2, of_decide_eq_true h3, h1]; rfl
theorem with_bits (a : Nat) (id : Int) : a ||| bitN id = withN a id := by
  unfold bitN withN
  by_cases h : okJ id = true
  · rw [if_pos h, if_pos h]
  · rw [if_neg h, if_neg h, Nat.or_zero]
theorem without_bits (a : Nat) (id : Int) : a ^^^ (a &&& bitN id) = withoutN a id := by
  apply Nat.eq_of_testBit_eq
  intro i
  rw [notN_bit, without_bit, bitN_bit]
theorem within_bits (a b : Nat) : (((((a &&& allN) ^^^ ((a &&& allN) &&& b) : Nat) : Int)) == 0) = withinB a b := by
  refine eq0_is ?_
  unfold withinB
  rw [List.all_eq_false]
  constructor
  · rintro ⟨x, hx, hn⟩
    obtain ⟨h1, h2, h3⟩ := mem_ids.1 hx
    refine ⟨x.toNat, ?_⟩
    have ho : okJ x = true := okI_iff.2 ⟨h1, by omega⟩
    unfold hasB at hn
    rw [ho, Bool.true_and] at hn
    rw [notN_bit, Nat.testBit_and, allN_bit, h3, decide_eq_true (show 1 ≤ x.toNat by omega), decide_eq_true (show x.toNat ≤ 24 by omega), show b.testBit x.toNat = false by simpa using hn]
    rfl
  · rintro ⟨j, hj⟩
    rw [notN_bit, Nat.testBit_and, allN_bit, Bool.and_eq_true, Bool.and_eq_true, Bool.and_eq_true] at hj
    obtain ⟨⟨h1, h2, h3⟩, h4⟩ := hj
    have h2 := of_decide_eq_true h2
    have h3 := of_decide_eq_true h3
    refine ⟨(j : Int), mem_ids.2 ⟨by omega, by omega, h1⟩, ?_⟩
    unfold hasB
    rw [show ((j : Int)).toNat = j from rfl]
    cases hb : b.testBit j with
    | false => rw [Bool.and_false]; decide
    | true => rw [hb] at h4; cases h4
theorem ofN_snoc (l : List Int) (x : Int) : ofN (l ++ [x]) = ofN l ||| 2 ^ x.toNat := by
  unfold ofN
  rw [List.foldl_append]
  rfl
theorem with_snoc {l : List Int} {x : Int} (h : okJ x = true) : withN (ofN l) x = ofN (l ++ [x]) := by
  rw [ofN_snoc]
  exact if_pos h
theorem okIds_no {l : List Int} {i : Nat} {x : Int} (hx : l[i]? = some x) (h : okJ x = false) : okIds l = false := by
  unfold okIds
  rw [List.all_eq_false]
  exact ⟨x, List.mem_of_getElem? hx, by rw [h]; decide⟩
theorem mem_ofN {l : List Int} (h : okIds l = true) (x : Int) : x ∈ idsL (ofN l) ↔ x ∈ l := by
  have hok : ∀ y ∈ l, okJ y = true := List.all_eq_true.1 h
  unfold idsL
  rw [mem_ids]
  constructor
  · rintro ⟨h1, h2, h3⟩
    rw [ofN_bit, List.any_eq_true] at h3
    obtain ⟨y, hy, e⟩ := h3
    have := okI_iff.1 (hok y hy)
    have := beq_iff_eq.1 e
    rw [show x = y by omega]
    exact hy
  · intro hx
    have := okI_iff.1 (hok x hx)
    exact ⟨this.1, this.2, by rw [ofN_bit, List.any_eq_true]; exact ⟨x, hx, beq_iff_eq.2 rfl⟩⟩
def Unread (s : List UInt8) (ids : List Int) (l : List UInt8) : Prop := (runS ([], -1) s).bind sepS = (runS (ids, -1) l).bind sepS
theorem Unread.no {s l : List UInt8} {ids : List Int} (hL : Unread s ids l) (h45 : s ≠ [45]) (h : (runS (ids, -1) l).bind sepS = none) : parseA s = none := by
  unfold parseA
  rw [if_neg h45, show (runS ([], -1) s).bind sepS = none from hL.trans h]
  rfl
def cutM (s : List UInt8) : Bool := decide (0 ≤ Lib.indexByte s 43)
end Go.Lg.Sg
end
section
namespace Go.Lg.Sg
open Go Go.Lg Go.Lg.Fld
theorem okI_eq (id : Int) : okJ id = (decide (1 ≤ id) && decide (id ≤ 24)) := rfl
end Go.Lg.Sg
namespace Go.Proofs.Ytjifibloagkeeaa
open Go Go.Lg Go.Lg.Fld Go.Lg.Sg
set_option maxRecDepth 100000
variable (X : Nat → Option Obj)
theorem zIsId (id : Int) : PSpec Try.prog X 39 [Ln .i64 id] (Lb (okJ id)) := by
  refine PSpec.intro Try.func39 rfl (by kernel_rfl) rfl rfl ?_
  intro C
  by_cases h1 : 1 ≤ id
  · rw [okI_eq, decide_eq_true h1, Bool.true_and]
    (refine LWP.seq <| LWP.region (by kernel_rfl) <| kas rfl <| RunK.nil <| LWP.seq <| LWP.region (by kernel_rfl) <| kmv rfl <| K.geq rfl rfl (decide_eq_true h1) .plain <| kmv rfl <| gmv rfl rfl rfl <| K.leq rfl rfl (r := decide (id ≤ 24)) rfl (.taken rfl rfl) ?_; refine kpt rfl rfl <| kas rfl <| RunK.nil <| LWP.ret ?_)
    exact ⟨[_], ⟨rfl, trivial⟩, rfl⟩
  · rw [okI_eq, decide_eq_false h1, Bool.false_and]
    (refine LWP.seq <| LWP.region (by kernel_rfl) <| kas rfl <| RunK.nil <| LWP.seq <| LWP.region (by kernel_rfl) <| kmv rfl <| K.geq rfl rfl (decide_eq_false h1) .plain <| kmv rfl <| RunK.passed rfl rfl rfl <| RunK.passed rfl rfl rfl <| kpf rfl rfl <| kas rfl <| RunK.nil ?_; refine LWP.ret ?_)
    exact ⟨[_], ⟨rfl, trivial⟩, rfl⟩
theorem zBit (id : Int) : PSpec Try.prog X 27 [Ln .i64 id] (Ln .u32 (bitN id : Nat)) := by
  have hI := zIsId X id
  refine PSpec.intro Try.func27 rfl (by kernel_rfl) rfl rfl ?_
  intro C
  cases h : okJ id with
  | false =>
    have hz : bitN id = 0 := if_neg (by rw [h]; decide)
    rw [h] at hI
    rw [hz]
    (refine LWP.seq <| LWP.region (by kernel_rfl) <| kas rfl <| RunK.nil <| LWP.seq <| LWP.seq <| LWP.region (by kernel_rfl) <| kmv rfl <| kca rfl rfl (hI) <| K.not rfl rfl .plain <| RunK.nil <| LWP.condT rfl ?_; refine LWP.seq <| LWP.region (by kernel_rfl) <| kas rfl <| RunK.nil <| LWP.ret ?_)
    exact ⟨[_], ⟨rfl, trivial⟩, rfl⟩
  | true =>
    have hs := shl_bit h
    have h0 := (okI_iff.1 h).1
    rw [h] at hI
    generalize bitN id = b at *
    (refine LWP.seq <| LWP.region (by kernel_rfl) <| kas rfl <| RunK.nil <| LWP.seq <| LWP.seq <| LWP.region (by kernel_rfl) <| kmv rfl <| kca rfl rfl (hI) <| K.not rfl rfl .plain <| RunK.nil <| LWP.condF rfl ?_; refine LWP.skip ?_; refine LWP.seq <| LWP.region (by kernel_rfl) <| kmv rfl <| K.shl rfl rfl (by omega) hs .plain <| kas rfl <| RunK.nil <| LWP.ret ?_)
    exact ⟨[_], ⟨rfl, trivial⟩, rfl⟩
section
variable (a b : Nat) (ha : a < 4294967296) (hb : b < 4294967296) (id : Int)
include ha
theorem gIs : PSpec Try.prog X 45 [Ln .u32 (a : Nat)] (Lb (isB a)) := by
  have h1 := notN_32 (b := allN) ha
  have h2 := is_bits ha
  refine PSpec.intro Try.func45 rfl (by kernel_rfl) rfl rfl ?_
  intro C
  generalize a ^^^ (a &&& allN) = c at *
  (refine LWP.seq <| LWP.region (by kernel_rfl) <| kas rfl <| RunK.nil <| LWP.seq <| LWP.region (by kernel_rfl) <| kmv rfl <| K.bitop (by simp) rfl rfl h1 .plain <| keq rfl rfl h2 <| kas rfl <| RunK.nil <| LWP.ret ?_)
  exact ⟨[_], ⟨rfl, trivial⟩, rfl⟩
theorem gHas : PSpec Try.prog X 38 [Ln .u32 (a : Nat), Ln .i64 id] (Lb (hasB a id)) := by
  have h1 := andN_32 ha (bitN_lt id)
  have h2 := has_bits a id
  have hB := zBit X id
  refine PSpec.intro Try.func38 rfl (by kernel_rfl) rfl rfl ?_
  intro C
  generalize a &&& bitN id = c at *
  generalize bitN id = d at *
  (refine LWP.seq <| LWP.region (by kernel_rfl) <| kas rfl <| RunK.nil <| LWP.seq <| LWP.region (by kernel_rfl) <| kmv rfl <| kmv rfl <| kca rfl rfl (hB) <| K.bitop (by simp) rfl rfl h1 .plain <| kne rfl rfl h2 <| kas rfl <| RunK.nil <| LWP.ret ?_)
  exact ⟨[_], ⟨rfl, trivial⟩, rfl⟩
theorem gWith : PSpec Try.prog X 13 [Ln .u32 (a : Nat), Ln .i64 id] (Ln .u32 (withN a id : Nat)) := by
  have h1 := orN_32 ha (bitN_lt id)
  rw [with_bits] at h1
  have hB := zBit X id
  refine PSpec.intro Try.func13 rfl (by kernel_rfl) rfl rfl ?_
  intro C
  generalize withN a id = c at *
  generalize bitN id = d at *
  (refine LWP.seq <| LWP.region (by kernel_rfl) <| kas rfl <| RunK.nil <| LWP.seq <| LWP.region (by kernel_rfl) <| kmv rfl <| kmv rfl <| kca rfl rfl (hB) <| K.bitop (by simp) rfl rfl h1 .plain <| kas rfl <| RunK.nil <| LWP.ret ?_)
  exact ⟨[_], ⟨rfl, trivial⟩, rfl⟩
theorem gWithout : PSpec Try.prog X 12 [Ln .u32 (a : Nat), Ln .i64 id] (Ln .u32 (withoutN a id : Nat)) := by
  have h1 := notN_32 (b := bitN id) ha
  rw [without_bits] at h1
  have hB := zBit X id
  refine PSpec.intro Try.func12 rfl (by kernel_rfl) rfl rfl ?_
  intro C
  generalize withoutN a id = c at *
  generalize bitN id = d at *
  (refine LWP.seq <| LWP.region (by kernel_rfl) <| kas rfl <| RunK.nil <| LWP.seq <| LWP.region (by kernel_rfl) <| kmv rfl <| kmv rfl <| kca rfl rfl (hB) <| K.bitop (by simp) rfl rfl h1 .plain <| kas rfl <| RunK.nil <| LWP.ret ?_)
  exact ⟨[_], ⟨rfl, trivial⟩, rfl⟩
theorem gWithin (_ : b < 4294967296) : PSpec Try.prog X 46 [Ln .u32 (a : Nat), Ln .u32 (b : Nat)] (Lb (withinB a b)) := by
  have h1 := andN_32 ha (show allN < 4294967296 by decide)
  have hm : a &&& allN < 4294967296 := Nat.lt_of_le_of_lt Nat.and_le_left ha
  have h2 := notN_32 (b := b) hm
  have h3 := within_bits a b
  refine PSpec.intro Try.func46 rfl (by kernel_rfl) rfl rfl ?_
  intro C
  generalize (a &&& allN) ^^^ ((a &&& allN) &&& b) = d at *
  generalize a &&& allN = c at *
  (refine LWP.seq <| LWP.region (by kernel_rfl) <| kas rfl <| RunK.nil <| LWP.seq <| LWP.region (by kernel_rfl) <| kmv rfl <| K.bitop (by simp) rfl rfl h1 .plain <| kmv rfl <| K.bitop (by simp) rfl rfl h2 .plain <| keq rfl rfl h3 <| kas rfl <| RunK.nil <| LWP.ret ?_)
  exact ⟨[_], ⟨rfl, trivial⟩, rfl⟩
include hb
end
end Go.Proofs.Ytjifibloagkeeaa
end
section
namespace Go.Lg.Sg
open Go Go.Lg Go.Lg.Fld
end Go.Lg.Sg
namespace Go.Proofs.Ytjifibloagkeeaa
open Go Go.Lg Go.Lg.Fld Go.Lg.Sg
set_option maxRecDepth 100000
variable (X : Nat → Option Obj)
end Go.Proofs.Ytjifibloagkeeaa
end
section
namespace Go.Proofs.Ytjifibloagkeeaa
open Go Go.Lg Go.Lg.Fld Go.Lg.Sg
set_option maxRecDepth 100000
variable (X : Nat → Option Obj)
set_option maxHeartbeats 1600000 in
theorem gOf (ids : List Int) (ad : Option Addr) (cap : Nat) (hin : NuIn X ad ids) (hbig : ids.length < 4611686018427387904) :
    PSpec Try.prog X 43 [Vn ad ids.length cap] (.tup [Sn .u32 (ofA ids : Nat), Sn .i64 (ofE ids)]) := by
  refine PSpec.intro Try.func43 rfl (by kernel_rfl) rfl rfl ?_
  intro C
  (refine LWP.seq <| LWP.region (by kernel_rfl) <| kas rfl <| kas rfl <| RunK.nil <| LWP.seq <| LWP.region (by kernel_rfl) <| kas rfl <| RunK.nil <| LWP.seq <| LWP.seq <| LWP.region (by kernel_rfl) <| kmv rfl <| K.lenX rfl SliceT.h rfl .plain ?_; refine kmv rfl <| RunK.nil <| LWP.block ?_)
  refine LWP.loop (fun m σ => ∃ i : Nat, i ≤ ids.length ∧ m = ids.length - i ∧ (∀ id ∈ ids.take i, okJ id = true) ∧ σ = ⟨[(4, Ln .u32 (ofN (ids.take i) : Nat)), (7, Vn ad ids.length cap), (8, Ln .i64 (ids.length : Nat)), (9, Ln .i64 (i : Nat))], [], X⟩) ids.length
    ⟨⟨[(4, Ln .u32 (ofN (ids.take 0) : Nat)), (7, Vn ad ids.length cap), (8, Ln .i64 (ids.length : Nat)), (9, Ln .i64 (0 : Nat))], [], X⟩, Le.of (by exact ⟨rfl, rfl, rfl, rfl, trivial⟩) (by exact trivial) (by exact rfl) (by exact rfl) (by repeat' (first | refine all_cons_true ?_ ?_ | rfl | exact bytes_inUse | exact vals_inUse | exact mid_inUse rfl)), 0, by omega, rfl, fun id h => by simp at h, rfl⟩ ?_
  rintro m σ ⟨i, hi, rfl, hpre, rfl⟩
  by_cases hlt : i < ids.length
  · obtain ⟨x, hx⟩ : ∃ x, ids[i]? = some x := ⟨_, List.getElem?_eq_getElem hlt⟩
    obtain ⟨blk, off, arr, el, fr, rfl, hX, hc⟩ := hin.at hx
    have hio : off + Int.toNat (i : Int) * 1 = off + i * 1 := by simp
    have hI := zIsId X x
    cases hk : okJ x with
    | false =>
      have hno := okIds_no hx hk
      rw [show ofA ids = 0 by unfold ofA; rw [hno]; rfl, show ofE ids = 1 by unfold ofE; rw [hno]; rfl]
      rw [hk] at hI
      (refine LWP.seq <| LWP.region (by kernel_rfl) <| klt rfl rfl (decide_eq_true (by omega)) <| RunK.nil <| LWP.seq <| LWP.condT rfl ?_; refine LWP.skip ?_; refine LWP.seq <| LWP.block <| LWP.seq <| LWP.region (by kernel_rfl) <| K.indexX rfl rfl SliceT.h (by omega) hio .plain <| K.loadX rfl hX rfl hc .plain <| kas rfl <| RunK.nil <| LWP.seq <| LWP.seq <| LWP.region (by kernel_rfl) <| kmv rfl <| kca rfl rfl hI <| K.not rfl rfl .plain ?_; refine RunK.nil <| LWP.condT rfl ?_; refine LWP.seq <| LWP.region (by kernel_rfl) <| kas rfl <| kas rfl <| RunK.nil <| LWP.ret ?_)
      exact ⟨[_, _], ⟨rfl, rfl, trivial⟩, rfl⟩
    | true =>
      have hlt32 := ofN_lt hpre
      have hW := gWith X (ofN (ids.take i)) (by omega) x
      rw [with_snoc hk, ← take_snoc hx] at hW
      rw [hk] at hI
      have hadd : IntKind.i64.wrap (((i : Nat) : Int) + 1) = ((i + 1 : Nat) : Int) := by rw [wrap_i64 (by omega)]; omega
      (refine LWP.seq <| LWP.region (by kernel_rfl) <| klt rfl rfl (decide_eq_true (by omega)) <| RunK.nil <| LWP.seq <| LWP.condT rfl ?_; refine LWP.skip ?_; refine LWP.seq <| LWP.block <| LWP.seq <| LWP.region (by kernel_rfl) <| K.indexX rfl rfl SliceT.h (by omega) hio .plain <| K.loadX rfl hX rfl hc .plain <| kas rfl <| RunK.nil <| LWP.seq <| LWP.seq <| LWP.region (by kernel_rfl) <| kmv rfl <| kca rfl rfl hI <| K.not rfl rfl .plain ?_; refine RunK.nil <| LWP.condF rfl ?_; refine LWP.skip ?_; refine LWP.region (by kernel_rfl) <| kmv rfl <| kmv rfl <| kca rfl rfl hW <| kas rfl <| RunK.nil <| LWP.region (by kernel_rfl) <| kad rfl rfl hadd <| kmv rfl <| RunK.nil ?_)
      exact ⟨_, ⟨[(4, Ln .u32 (ofN (ids.take (i + 1)) : Nat)), (7, Vn (some ⟨blk, off, none⟩) ids.length cap), (8, Ln .i64 (ids.length : Nat)), (9, Ln .i64 (i + 1 : Nat))], [], X⟩, by omega, Le.of (by exact ⟨rfl, rfl, rfl, rfl, trivial⟩) (by exact trivial) (by exact rfl) (by exact rfl) (by repeat' (first | refine all_cons_true ?_ ?_ | rfl | exact bytes_inUse | exact vals_inUse | exact mid_inUse rfl)), i + 1, by omega, rfl, (fun id h => by
        rw [take_snoc hx] at h
        rcases List.mem_append.1 h with h | h
        · exact hpre id h
        · rw [List.mem_singleton.1 h]; exact hk), rfl⟩
  · have e : i = ids.length := by omega
    subst e
    rw [List.take_length] at hpre ⊢
    have hok : okIds ids = true := List.all_eq_true.2 hpre
    rw [show ofA ids = ofN ids from if_pos hok, show ofE ids = 0 from if_pos hok]
    (refine LWP.seq <| LWP.region (by kernel_rfl) <| klt rfl rfl (decide_eq_false (by omega)) <| RunK.nil <| LWP.seq <| LWP.condF rfl ?_; refine LWP.exit <| LWP.seq <| LWP.region (by kernel_rfl) <| kmv rfl <| kas rfl <| kas rfl <| RunK.nil <| LWP.ret ?_)
    exact ⟨[_, _], ⟨rfl, rfl, trivial⟩, rfl⟩
theorem of_lent {S : Nat → Option (Option Box)} {l : List Int} {k : Nat} {el : TypeId} {row : Bool} (hbig : l.length < 4611686018427387904) (hk : S k = some (some ⟨el, (nuV l).map .val, row⟩)) :
    ∀ (Y : Nat → Option Obj) (us : List Value), (∀ b o, X b = some o → Y b = some o) → LentLs S Y [.sv (.one (.slc k 0 l.length))] us → PSpec Try.prog Y 43 (us.map toLV) (.tup [Sn .u32 (ofA l : Nat), Sn .i64 (ofE l)]) := by
  intro Y us hY hL
  obtain ⟨u1, us1, rfl, ⟨b, blk, cap2, m, hk', rfl, hc, hfit, hB⟩, rfl⟩ := hL
  rw [hk] at hk'
  simp only [Option.some.injEq] at hk'
  subst hk'
  obtain ⟨arr, fr, us', sp, hYb, hsz, harr, hv⟩ := hB
  have := hv _ rfl
  subst this
  have hN : NuIn Y (some ⟨blk, 0, none⟩) l := by
    have hr := rows_frozen (X := Y) (blk := blk) (arr := arr) (el := el) (fr := fr) (sz := 1) (rows := l.map fun n => [Value.int .i64 n]) (fun r hr => by obtain ⟨x, _, rfl⟩ := List.mem_map.1 hr; rfl) ⟨sp, by rw [nu_flat]; exact harr⟩
    have e : withBlock Y blk (.cells arr el fr) = Y := by
      funext b
      unfold withBlock
      by_cases hb : b = blk
      · rw [if_pos hb, hb, hYb]
      · rw [if_neg hb]
    rw [e] at hr
    exact hr
  exact gOf Y l (some ⟨blk, 0, none⟩) cap2 hN hbig
end Go.Proofs.Ytjifibloagkeeaa
end
section
namespace Go.Lg
open Go Go.RowKit
def atR (b : Nat) (R : Rsc) : Rsc := ⟨fun ρ H => ρ.1 = b ∧ R.holds ρ H⟩
def minusM (H K : Nat → Option Obj) : Nat → Option Obj := fun b => match K b with | some _ => none | none => H b
theorem minusM_none {H K : Nat → Option Obj} {b : Nat} (h : K b = none) : minusM H K b = H b := by unfold minusM; rw [h]
theorem minusM_some {H K : Nat → Option Obj} {b : Nat} {o : Obj} (h : minusM H K b = some o) : K b = none ∧ H b = some o := by
  unfold minusM at h
  cases hk : K b with
  | none => rw [hk] at h; exact ⟨rfl, h⟩
  | some x => rw [hk] at h; cases h
theorem minusM_in {H K : Nat → Option Obj} {b : Nat} (h : K b ≠ none) : minusM H K b = none := by
  unfold minusM
  cases hk : K b with
  | none => exact absurd hk h
  | some x => rfl
theorem OwnedM.swap {C : Ctx} {X A B : Nat → Option Obj} (hA : OwnedM C X A) (hB : OwnedM C (joinM X A) B) : OwnedM C X B ∧ OwnedM C (joinM X B) A ∧ joinM (joinM X A) B = joinM (joinM X B) A := by
  have hno : ∀ b o, B b = some o → A b = none ∧ X b = none := fun b o h => joinM_none (hB.own b o h).2.2
  refine ⟨⟨fun b o h => let g := hB.own b o h; ⟨g.1, g.2.1, (hno b o h).2⟩⟩, ⟨fun b o h => ?_⟩, ?_⟩
  · obtain ⟨h1, h2, h3⟩ := hA.own b o h
    refine ⟨h1, h2, ?_⟩
    cases hb : B b with
    | none => rw [joinM_out hb]; exact h3
    | some o' => have := (hno b o' hb).1; rw [h] at this; cases this
  · funext b
    unfold joinM
    cases hb : B b with
    | none => cases A b <;> rfl
    | some o => rw [(hno b o hb).1]; rfl
def joinL (Y : Nat → Option Obj) : List (Nat → Option Obj) → (Nat → Option Obj)
  | [] => Y
  | A :: l => joinL (joinM Y A) l
def ownL (C : Ctx) (Y : Nat → Option Obj) : List (Nat → Option Obj) → Prop
  | [] => True
  | A :: l => OwnedM C Y A ∧ ownL C (joinM Y A) l
theorem ownL_perm {C : Ctx} {l l' : List (Nat → Option Obj)} (h : l.Perm l') : ∀ Y, ownL C Y l → ownL C Y l' ∧ joinL Y l = joinL Y l' := by
  induction h with
  | nil => exact fun Y h => ⟨h, rfl⟩
  | cons A _ ih => exact fun Y h => ⟨⟨h.1, (ih _ h.2).1⟩, (ih _ h.2).2⟩
  | swap A B l =>
    intro Y h
    obtain ⟨h1, h2, h3⟩ := h
    obtain ⟨g1, g2, g3⟩ := h1.swap h2
    refine ⟨⟨g1, g2, ?_⟩, ?_⟩
    · rw [← g3]; exact h3
    · show joinL (joinM (joinM Y B) A) l = joinL (joinM (joinM Y A) B) l
      rw [g3]
  | trans _ _ ih1 ih2 => exact fun Y h => ⟨(ih2 Y (ih1 Y h).1).1, (ih1 Y h).2.trans (ih2 Y (ih1 Y h).1).2⟩
theorem fix_vals {k b : Nat} (l : List Value) : (l.map CV.val).map (CV.fix k b) = l.map CV.val := by rw [List.map_map]; rfl
theorem fix_mid {k b off : Nat} (A B : List Value) : (A.map CV.val ++ .ptr k off :: B.map CV.val).map (CV.fix k b) = (A ++ .pointer (some ⟨b, off, none⟩) :: B).map CV.val := by
  rw [List.map_append, List.map_cons, fix_vals, fix_vals, List.map_append, List.map_cons]
  congr 2
  simp [CV.fix]
theorem fixIn_vals {k : Nat} {bx : List (Nat × Option Box)} (l : List Value) : (l.map CV.val).all (CV.fixIn k bx) = true := List.all_eq_true.2 fun c hc => by
  obtain ⟨v, _, rfl⟩ := List.mem_map.1 hc
  rfl
theorem fixIn_mid {k off : Nat} {bx : List (Nat × Option Box)} (A B : List Value) : (A.map CV.val ++ .ptr k off :: B.map CV.val).all (CV.fixIn k bx) = true := by
  rw [List.all_append, List.all_cons, fixIn_vals, fixIn_vals]
  simp [CV.fixIn]
section
variable {P : Program} {n : Nat} {C : Ctx} {c : Code} {Q : Exit → St → Prop} {X : Nat → Option Obj} {s : List (Nat × LV)} {bx : List (Nat × Option Box)}
theorem Rel.takeRes {ι : Nat → Nat × Nat} {a : Act} {w : World} {k b m : Nat} {R : Rsc} {H Hc : Nat → Option Obj} (hO : OwnedM C X H) (hsub : ∀ x o, Hc x = some o → H x = some o) (hR : R.holds (b, m) Hc) (hroot : Hc b ≠ none)
    (hs : s.all (fun p => p.2.inUse bx) = true) (hb : bx.all (fun p => match p.2 with | some b => b.cells.all (CV.inUse bx) | none => true) = true) (hk : look k bx = none) (hlt : k < 1000000)
    (hr : Rel n C ι ⟨s, bx, joinM X H⟩ a w) :
    Rel n C (put1 ι k (b, m)) ⟨s, (k, some ⟨0, [], .res (atR b R)⟩) :: bx, joinM X (minusM H Hc)⟩ a w := by
  have hlk : ∀ k' x, look k' bx = some x → k' ≠ k := fun k' x h' e => by rw [e, hk] at h'; cases h'
  have hι : ∀ k', k' ≠ k → put1 ι k (b, m) k' = ι k' := fun k' e => by unfold put1; rw [if_neg e]
  have hιk : put1 ι k (b, m) k = (b, m) := by unfold put1; rw [if_pos rfl]
  have hst : ∀ k' x, (⟨s, (k, some ⟨0, [], .res (atR b R)⟩) :: bx, joinM X (minusM H Hc)⟩ : St).stat k' = some (some x) → (k' = k ∧ x = ⟨0, [], .res (atR b R)⟩) ∨ (k' ≠ k ∧ look k' bx = some (some x)) := fun k' x h' => by
    rw [stat_hd] at h'
    by_cases e : k' = k
    · rw [if_pos e] at h'
      simp only [Option.some.injEq] at h'
      exact .inl ⟨e, h'.symm⟩
    · rw [if_neg e] at h'; exact .inr ⟨e, h'⟩
  have hon : SameOn bx (⟨s, bx, joinM X H⟩ : St).stat (⟨s, (k, some ⟨0, [], .res (atR b R)⟩) :: bx, joinM X (minusM H Hc)⟩ : St).stat := fun k' x h' => by
    rw [stat_hd, if_neg (hlk k' x h')]; rfl
  have hmean : ∀ k', (look k' bx).isSome = true → put1 ι k (b, m) k' = ι k' := fun k' hk' => hι k' (by obtain ⟨x, hx⟩ := Option.isSome_iff_exists.1 hk'; exact hlk k' x hx)
  have hboxm : ∀ {x : Box} {us : List Value}, x.rel (⟨s, (k, some ⟨0, [], .res (atR b R)⟩) :: bx, joinM X (minusM H Hc)⟩ : St).stat ι us → x.cells.all (CV.inUse bx) = true → x.rel (⟨s, (k, some ⟨0, [], .res (atR b R)⟩) :: bx, joinM X (minusM H Hc)⟩ : St).stat (put1 ι k (b, m)) us := fun {x us} h1 h2 => by
    unfold Box.rel at h1 ⊢
    cases hrow : x.row with
    | res R => rw [hrow] at h1; exact h1.elim
    | bool r =>
      cases r with
      | false => rw [hrow] at h1; exact CVs.rel_means hmean h2 h1
      | true =>
        rw [hrow] at h1
        obtain ⟨us', sp, e, hl⟩ := h1
        exact ⟨us', sp, e, CVs.rel_means hmean h2 hl⟩
  have hfar : ∀ k' x, look k' bx = some (some x) → Hc (ι k').1 = none := fun k' x h => by
    have h2 : H (ι k').1 = none ∧ X (ι k').1 = none := joinM_none (hr.own k' x h).2
    cases hc : Hc (ι k').1 with
    | none => rfl
    | some o => rw [hsub _ _ hc] at h2; cases h2.1
  have hbX : Hc b ≠ none → joinM X (minusM H Hc) b = none := fun h => by
    rw [joinM_out (minusM_in h)]
    cases hc : Hc b with
    | none => exact absurd hc h
    | some o => exact (hO.own b o (hsub _ _ hc)).2.2
  exact {
    defers := hr.defers, size := hr.size
    slots := fun d' lv hd => by
      obtain ⟨v', hv', hr'⟩ := hr.slots d' lv hd
      have hu := List.all_eq_true.1 hs _ (look_mem hd)
      exact ⟨v', hv', LV.rel_means hmean hu (LV.rel_on hon hu hr')⟩
    boxes := fun k' x hx hxb => by
      rcases hst k' x hx with ⟨rfl, rfl⟩ | ⟨hne, hx'⟩
      · cases hxb
      · rw [hι k' hne]
        obtain ⟨arr', fr', h1, h2, h3, h4⟩ := hr.boxes k' x hx' hxb
        have hu : x.cells.all (CV.inUse bx) = true := by simpa using List.all_eq_true.1 hb _ (look_mem hx')
        exact ⟨arr', fr', h1, h2, h3, hboxm (Box.rel_on hon hu h4) hu⟩
    own := fun k' x hx => by
      rcases hst k' x hx with ⟨rfl, rfl⟩ | ⟨hne, hx'⟩
      · rw [hιk]
        refine ⟨?_, hbX hroot⟩
        cases hc : Hc b with
        | none => exact absurd hc hroot
        | some o => exact (hO.own b o (hsub _ _ hc)).1
      · rw [hι k' hne]
        obtain ⟨h1, h2⟩ := hr.own k' x hx'
        obtain ⟨h3, h4⟩ := joinM_none h2
        refine ⟨h1, ?_⟩
        show joinM X (minusM H Hc) (ι k').1 = none
        have hm : minusM H Hc (ι k').1 = none := by
          cases hc : minusM H Hc (ι k').1 with
          | none => rfl
          | some o => rw [(minusM_some hc).2] at h3; cases h3
        rw [joinM_out hm]; exact h4
    inj := fun k1 k2 b1 b2 h1 h2 he => by
      have hne : ∀ k' x, look k' bx = some (some x) → (ι k').1 ≠ b := fun k' x hx e => hroot (by rw [← e]; exact hfar k' x hx)
      rcases hst k1 b1 h1 with ⟨e1, _⟩ | ⟨n1, h1'⟩ <;> rcases hst k2 b2 h2 with ⟨e2, _⟩ | ⟨n2, h2'⟩
      · rw [e1, e2]
      · rw [e1, hιk, hι k2 n2] at he; exact absurd he.symm (hne k2 b2 h2')
      · rw [e2, hιk, hι k1 n1] at he; exact absurd he (hne k1 b1 h1')
      · rw [hι k1 n1, hι k2 n2] at he; exact hr.inj k1 k2 b1 b2 h1' h2' he
    keep := fun k' x hx hge => by
      rcases hst k' x hx with ⟨e, _⟩ | ⟨hne, hx'⟩
      · omega
      · rw [hι k' hne]; exact hr.keep k' x hx' hge
    ext := fun x o hx => by
      have hx : joinM X (minusM H Hc) x = some o := hx
      refine hr.ext x o ?_
      show joinM X H x = some o
      cases hc : minusM H Hc x with
      | some o' => rw [joinM_in hc] at hx; cases hx; exact joinM_in (minusM_some hc).2
      | none =>
        rw [joinM_out hc] at hx
        have : H x = none := by
          cases hh : H x with
          | none => rfl
          | some o' => have := (hO.own x o' hh).2.2; rw [hx] at this; cases this
        rw [joinM_out this]; exact hx
    res := by
      obtain ⟨F, hF⟩ := hr.res
      have hFk : ∀ x, F k x = none := fun x => by
        cases ho : F k x with
        | none => rfl
        | some o =>
          obtain ⟨⟨_, _, _, h1⟩, _⟩ := hF.mem k x o ho
          have h1 : look k bx = some _ := h1
          rw [hk] at h1; cases h1
      have hFar : ∀ j x, F j x ≠ none → H x = none ∧ X x = none := fun j x h => by
        cases ho : F j x with
        | none => exact absurd ho h
        | some o => exact joinM_none (hF.mem j x o ho).2.2.2.2.1
      have hcH : ∀ x, Hc x ≠ none → ∃ o, Hc x = some o ∧ H x = some o := fun x h => by
        cases hc : Hc x with
        | none => exact absurd hc h
        | some o => exact ⟨o, rfl, hsub x o hc⟩
      refine ⟨fun j => open Classical in if j = k then Hc else F j, fun j e' cs' R' hj => ?_, fun j x o ho => ?_, fun i j x h1 h2 => ?_⟩
      · rcases hst j _ hj with ⟨rfl, h2⟩ | ⟨hne, hj'⟩
        · rw [if_pos rfl, hιk]
          simp only [Box.mk.injEq, Row.res.injEq] at h2
          obtain ⟨_, _, rfl⟩ := h2
          exact ⟨⟨rfl, hR⟩, hroot⟩
        · rw [if_neg hne, hι j hne]; exact hF.holds j e' cs' R' hj'
      · by_cases ej : j = k
        · rw [if_pos ej] at ho
          obtain ⟨h1, h2, h3⟩ := hO.own x o (hsub x o ho)
          refine ⟨⟨0, [], atR b R, by rw [stat_hd, if_pos ej]⟩, hr.ext x o (joinM_in (hsub x o ho)), h2, h1, ?_, fun i bi hi ei => ?_⟩
          · show joinM X (minusM H Hc) x = none
            rw [joinM_out (minusM_in (by rw [ho]; simp))]; exact h3
          · rw [ej]
            rcases hst i bi hi with ⟨e, _⟩ | ⟨hne, hi'⟩
            · exact e
            · rw [hι i hne] at ei
              have := hfar i bi hi'
              rw [ei, ho] at this; cases this
        · rw [if_neg ej] at ho
          obtain ⟨⟨e1, cs1, R1, h1⟩, h2, h3, h4, h5, h6⟩ := hF.mem j x o ho
          obtain ⟨h7, h8⟩ := hFar j x (by rw [ho]; simp)
          refine ⟨⟨e1, cs1, R1, by rw [stat_hd, if_neg ej]; exact h1⟩, h2, h3, h4, ?_, fun i bi hi ei => ?_⟩
          · show joinM X (minusM H Hc) x = none
            have hm : minusM H Hc x = none := by
              cases hc : minusM H Hc x with
              | none => rfl
              | some o' => rw [(minusM_some hc).2] at h7; cases h7
            rw [joinM_out hm]; exact h8
          · rcases hst i bi hi with ⟨e, _⟩ | ⟨hne, hi'⟩
            · rw [e, hιk] at ei
              obtain ⟨o', _, h9⟩ := hcH b hroot
              rw [← ei] at h7
              rw [h9] at h7; cases h7
            · rw [hι i hne] at ei; exact h6 i bi hi' ei
      · by_cases ei : i = k
        · by_cases ej : j = k
          · rw [ei, ej]
          · rw [if_pos ei] at h1
            rw [if_neg ej] at h2
            obtain ⟨o, _, h3⟩ := hcH x h1
            rw [(hFar j x h2).1] at h3; cases h3
        · by_cases ej : j = k
          · rw [if_neg ei] at h1
            rw [if_pos ej] at h2
            obtain ⟨o, _, h3⟩ := hcH x h2
            rw [(hFar i x h1).1] at h3; cases h3
          · rw [if_neg ei] at h1
            rw [if_neg ej] at h2
            exact hF.apart i j x h1 h2
    frame := hr.frame, big := hr.big, os := hr.os, tape := hr.tape, output := hr.output }
theorem LWP.takeRes {k b m : Nat} {R : Rsc} {H Hc : Nat → Option Obj} (hO : OwnedM C X H) (hsub : ∀ x o, Hc x = some o → H x = some o) (hR : R.holds (b, m) Hc) (hroot : Hc b ≠ none)
    (hs : s.all (fun p => p.2.inUse bx) = true) (hb : bx.all (fun p => match p.2 with | some b => b.cells.all (CV.inUse bx) | none => true) = true) (hk : look k bx = none) (hlt : k < 1000000)
    (h : LWP P n C c Q ⟨s, (k, some ⟨0, [], .res (atR b R)⟩) :: bx, joinM X (minusM H Hc)⟩) : LWP P n C c Q ⟨s, bx, joinM X H⟩ :=
  ⟨fun ι a w hr => h.out _ a w (hr.takeRes hO hsub hR hroot hs hb hk hlt)⟩
theorem LWP.fixAlone {k : Nat} {e : TypeId} {cs : List CV} {R : Rsc}
    (hs : s.all (fun p => p.2.inUse bx) = true) (hb : bx.all (fun p => match p.2 with | some b => b.cells.all (CV.inUse bx) | none => true) = true) (hk : look k bx = none)
    (h : ∀ (ρ : Nat × Nat) (H : Nat → Option Obj), R.holds ρ H → OwnedM C X H → LWP P n C c Q ⟨s, bx, joinM X H⟩) : LWP P n C c Q ⟨s, (k, some ⟨e, cs, .res R⟩) :: bx, X⟩ := ⟨fun ι a w hr => by
  obtain ⟨H, h1, h2, h3⟩ := hr.fixAlone hs hb hk
  exact (h (ι k) H h1 h2).out ι a w h3⟩
theorem Leads.fixAlone {Mid : St → Prop} {k : Nat} {e : TypeId} {cs : List CV} {R : Rsc}
    (hs : s.all (fun p => p.2.inUse bx) = true) (hb : bx.all (fun p => match p.2 with | some b => b.cells.all (CV.inUse bx) | none => true) = true) (hk : look k bx = none)
    (h : ∀ (ρ : Nat × Nat) (H : Nat → Option Obj), R.holds ρ H → OwnedM C X H → Leads n C Mid ⟨s, bx, joinM X H⟩) : Leads n C Mid ⟨s, (k, some ⟨e, cs, .res R⟩) :: bx, X⟩ := ⟨fun ι a w hr => by
  obtain ⟨H, h1, h2, h3⟩ := hr.fixAlone hs hb hk
  exact (h (ι k) H h1 h2).out ι a w h3⟩
theorem Rel.resEx {α : Type} {ι : Nat → Nat × Nat} {a : Act} {w : World} {k : Nat} {e : TypeId} {cs : List CV} {R : Rsc} {R2 : α → Rsc} (h : ∀ ρ H, R.holds ρ H → ∃ x, (R2 x).holds ρ H)
    (hr : Rel n C ι ⟨s, (k, some ⟨e, cs, .res R⟩) :: bx, X⟩ a w) : ∃ x, Rel n C ι ⟨s, (k, some ⟨0, [], .res (R2 x)⟩) :: bx, X⟩ a w := by
  obtain ⟨F, hF⟩ := hr.res
  have hk : (⟨s, (k, some ⟨e, cs, .res R⟩) :: bx, X⟩ : St).stat k = some (some ⟨e, cs, .res R⟩) := by rw [stat_hd, if_pos rfl]
  obtain ⟨hR, hroot⟩ := hF.holds k _ _ _ hk
  obtain ⟨x, hx⟩ := h _ _ hR
  refine ⟨x, ?_⟩
  have hlater := later_hd (s := s) (bx := bx) (k := k) ι ⟨e, cs, .res R⟩ ⟨0, [], .res (R2 x)⟩ X X
  have live : ∀ j b, (⟨s, (k, some ⟨0, [], .res (R2 x)⟩) :: bx, X⟩ : St).stat j = some (some b) → ∃ b0, (⟨s, (k, some ⟨e, cs, .res R⟩) :: bx, X⟩ : St).stat j = some (some b0) ∧ (j ≠ k → b = b0) := fun j b hj => by
    rw [stat_hd] at hj ⊢
    by_cases e : j = k
    · rw [if_pos e]; exact ⟨_, rfl, fun h => absurd e h⟩
    · rw [if_neg e] at hj ⊢; exact ⟨b, hj, fun _ => rfl⟩
  exact {
    defers := hr.defers, size := hr.size
    slots := fun d lv hd => by
      obtain ⟨v, hv, hvr⟩ := hr.slots d lv hd
      exact ⟨v, hv, LV.rel_later hlater hvr⟩
    boxes := fun j b hj hbk => by
      by_cases ej : j = k
      · subst ej
        rw [stat_hd, if_pos rfl] at hj
        simp only [Option.some.injEq] at hj
        subst hj
        cases hbk
      · obtain ⟨b0, h0, h1⟩ := live j b hj
        have := h1 ej
        subst this
        obtain ⟨arr', fr', g1, g2, g3, g4⟩ := hr.boxes j b h0 hbk
        exact ⟨arr', fr', g1, g2, g3, Box.rel_later hlater g4⟩
    own := fun j b hj => by
      obtain ⟨b0, h0, _⟩ := live j b hj
      exact hr.own j b0 h0
    inj := fun i j bi bj hi hj he => by
      obtain ⟨b1, h1, _⟩ := live i bi hi
      obtain ⟨b2, h2, _⟩ := live j bj hj
      exact hr.inj i j b1 b2 h1 h2 he
    keep := fun j b hj hge => by obtain ⟨b0, h0, _⟩ := live j b hj; exact hr.keep j b0 h0 hge
    ext := hr.ext
    res := by
      refine ⟨F, fun j e' cs' R' hj => ?_, fun j b o ho => ?_, hF.apart⟩
      · rw [stat_hd] at hj
        by_cases ej : j = k
        · rw [if_pos ej] at hj
          simp only [Option.some.injEq, Box.mk.injEq, Row.res.injEq] at hj
          obtain ⟨_, _, rfl⟩ := hj
          rw [ej]; exact ⟨hx, hroot⟩
        · rw [if_neg ej] at hj
          exact hF.holds j e' cs' R' (by rw [stat_hd, if_neg ej]; exact hj)
      · obtain ⟨⟨e1, cs1, R1, h1⟩, h2, h3, h4, h5, h6⟩ := hF.mem j b o ho
        refine ⟨?_, h2, h3, h4, h5, fun i bi hi ei => ?_⟩
        · by_cases ej : j = k
          · exact ⟨0, [], R2 x, by rw [stat_hd, if_pos ej]⟩
          · exact ⟨e1, cs1, R1, by rw [stat_hd, if_neg ej]; rw [stat_hd, if_neg ej] at h1; exact h1⟩
        · obtain ⟨b0, h0, _⟩ := live i bi hi
          exact h6 i b0 h0 ei
    frame := hr.frame, big := hr.big, os := hr.os, tape := hr.tape, output := hr.output }
theorem LWP.resEx {α : Type} {k : Nat} {e : TypeId} {cs : List CV} {R : Rsc} (R2 : α → Rsc) (he : ∀ ρ H, R.holds ρ H → ∃ x, (R2 x).holds ρ H)
    (h : ∀ x, LWP P n C c Q ⟨s, (k, some ⟨0, [], .res (R2 x)⟩) :: bx, X⟩) : LWP P n C c Q ⟨s, (k, some ⟨e, cs, .res R⟩) :: bx, X⟩ := ⟨fun ι a w hr => by
  obtain ⟨x, hx⟩ := hr.resEx he
  exact (h x).out ι a w hx⟩
theorem Leads.resTo {Mid : St → Prop} {k : Nat} {e : TypeId} {cs : List CV} {R R2 : Rsc} (he : ∀ ρ H, R.holds ρ H → R2.holds ρ H)
    (h : Leads n C Mid ⟨s, (k, some ⟨0, [], .res R2⟩) :: bx, X⟩) : Leads n C Mid ⟨s, (k, some ⟨e, cs, .res R⟩) :: bx, X⟩ := ⟨fun ι a w hr => by
  obtain ⟨_, hx⟩ := hr.resEx (α := Unit) (R2 := fun _ => R2) fun ρ H hh => ⟨(), he ρ H hh⟩
  exact h.out ι a w hx⟩
theorem LWP.resTo {k : Nat} {e : TypeId} {cs : List CV} {R R2 : Rsc} (he : ∀ ρ H, R.holds ρ H → R2.holds ρ H)
    (h : LWP P n C c Q ⟨s, (k, some ⟨0, [], .res R2⟩) :: bx, X⟩) : LWP P n C c Q ⟨s, (k, some ⟨e, cs, .res R⟩) :: bx, X⟩ := ⟨fun ι a w hr => by
  obtain ⟨_, hx⟩ := hr.resEx (α := Unit) (R2 := fun _ => R2) fun ρ H hh => ⟨(), he ρ H hh⟩
  exact h.out ι a w hx⟩
end
structure Refs (H : Nat → Option Obj) (ps : List Nat) (Rs : List Rsc) : Prop where
  len : ps.length = Rs.length
  ex : ∃ F : Nat → Nat → Option Obj, (∀ i b o, F i b = some o → H b = some o) ∧ (∀ i j b, F i b ≠ none → F j b ≠ none → i = j) ∧
    ∀ (i b : Nat) (R : Rsc), Rs[i]? = some R → ps[i]? = some b → (∃ m, R.holds (b, m) (F i)) ∧ F i b ≠ none
theorem Refs.nil (H : Nat → Option Obj) : Refs H [] [] := ⟨rfl, fun _ _ => none, fun _ _ _ h => (by cases h), fun _ _ _ h => absurd rfl h, fun i b R h => (by simp at h)⟩
section
variable {H : Nat → Option Obj} {ps : List Nat} {Rs : List Rsc}
theorem Refs.take (h : Refs H ps Rs) {i : Nat} {R : Rsc} (hi : Rs[i]? = some R) : ∃ (b m : Nat) (Hc : Nat → Option Obj), ps[i]? = some b ∧ R.holds (b, m) Hc ∧ Hc b ≠ none ∧ (∀ x o, Hc x = some o → H x = some o) ∧
    ∀ (R' : Rsc) (m' : Nat) (Hc' : Nat → Option Obj), R'.holds (b, m') Hc' → Hc' b ≠ none → (∀ x, Hc' x ≠ none → minusM H Hc x = none) → Refs (joinM (minusM H Hc) Hc') ps (Rs.set i R') := by
  obtain ⟨hl, F, h1, h2, h3⟩ := h
  have hlt := (List.getElem?_eq_some_iff.1 hi).1
  obtain ⟨b, hb⟩ : ∃ b, ps[i]? = some b := ⟨_, List.getElem?_eq_getElem (by omega)⟩
  obtain ⟨⟨m, h4⟩, h5⟩ := h3 i b R hi hb
  refine ⟨b, m, F i, hb, h4, h5, h1 i, fun R' m' Hc' g1 g2 g3 => ⟨by rw [List.length_set]; exact hl, fun j => if j = i then Hc' else F j, fun j x o hx => ?_, fun j k x hj hk => ?_, fun j c S hS hc => ?_⟩⟩
  · replace hx : (if j = i then Hc' else F j) x = some o := hx
    by_cases e : j = i
    · rw [if_pos e] at hx; exact joinM_in hx
    · rw [if_neg e] at hx
      have hmi : minusM H (F i) x = some o := by
        rw [minusM_none]
        · exact h1 j x o hx
        · cases hc : F i x with
          | none => rfl
          | some o' => exact absurd (h2 j i x (by rw [hx]; simp) (by rw [hc]; simp)) e
      cases hc : Hc' x with
      | none => rw [joinM_out hc]; exact hmi
      | some o' => have := g3 x (by rw [hc]; simp); rw [hmi] at this; cases this
  · have far : ∀ j x, j ≠ i → F j x ≠ none → Hc' x = none := fun j x e hx => by
      cases hc : Hc' x with
      | none => rfl
      | some o' =>
        have h6 := g3 x (by rw [hc]; simp)
        cases ho : F j x with
        | none => exact absurd ho hx
        | some o =>
          rw [minusM_none, h1 j x o ho] at h6
          · cases h6
          · cases hc2 : F i x with
            | none => rfl
            | some o'' => exact absurd (h2 j i x hx (by rw [hc2]; simp)) e
    replace hj : (if j = i then Hc' else F j) x ≠ none := hj
    replace hk : (if k = i then Hc' else F k) x ≠ none := hk
    by_cases e : j = i
    · by_cases e2 : k = i
      · omega
      · rw [if_pos e] at hj
        rw [if_neg e2] at hk
        exact absurd (far k x e2 hk) hj
    · by_cases e2 : k = i
      · rw [if_neg e] at hj
        rw [if_pos e2] at hk
        exact absurd (far j x e hj) hk
      · rw [if_neg e] at hj
        rw [if_neg e2] at hk
        exact h2 j k x hj hk
  · show (∃ m, S.holds (c, m) (if j = i then Hc' else F j)) ∧ (if j = i then Hc' else F j) c ≠ none
    by_cases e : j = i
    · rw [if_pos e]
      rw [e, List.getElem?_set_self hlt] at hS
      rw [e, hb] at hc
      simp only [Option.some.injEq] at hS hc
      subst hS hc
      exact ⟨⟨m', g1⟩, g2⟩
    · rw [if_neg e]
      rw [List.getElem?_set_ne (fun e' => e e'.symm)] at hS
      exact h3 j c S hS hc
theorem Refs.push (h : Refs H ps Rs) {b m : Nat} {R : Rsc} {Hc : Nat → Option Obj} (hR : R.holds (b, m) Hc) (hb : Hc b ≠ none) (hno : ∀ x, Hc x ≠ none → H x = none) : Refs (joinM H Hc) (ps ++ [b]) (Rs ++ [R]) := by
  obtain ⟨hl, F, h1, h2, h3⟩ := h
  refine ⟨by rw [List.length_append, List.length_append, hl]; rfl, fun j => if j = Rs.length then Hc else F j, fun j x o hx => ?_, fun j k x hj hk => ?_, fun j c S hS hc => ?_⟩
  · replace hx : (if j = Rs.length then Hc else F j) x = some o := hx
    by_cases e : j = Rs.length
    · rw [if_pos e] at hx; exact joinM_in hx
    · rw [if_neg e] at hx
      have h4 := h1 j x o hx
      cases hc : Hc x with
      | none => rw [joinM_out hc]; exact h4
      | some o' => have := hno x (by rw [hc]; simp); rw [h4] at this; cases this
  · have far : ∀ j x, F j x ≠ none → Hc x = none := fun j x hx => by
      cases ho : F j x with
      | none => exact absurd ho hx
      | some o =>
        cases hc : Hc x with
        | none => rfl
        | some o' => have := hno x (by rw [hc]; simp); rw [h1 j x o ho] at this; cases this
    replace hj : (if j = Rs.length then Hc else F j) x ≠ none := hj
    replace hk : (if k = Rs.length then Hc else F k) x ≠ none := hk
    by_cases e : j = Rs.length
    · by_cases e2 : k = Rs.length
      · omega
      · rw [if_pos e] at hj
        rw [if_neg e2] at hk
        exact absurd (far k x hk) hj
    · by_cases e2 : k = Rs.length
      · rw [if_neg e] at hj
        rw [if_pos e2] at hk
        exact absurd (far j x hj) hk
      · rw [if_neg e] at hj
        rw [if_neg e2] at hk
        exact h2 j k x hj hk
  · have hlt := (List.getElem?_eq_some_iff.1 hS).1
    rw [List.length_append, List.length_singleton] at hlt
    show (∃ m, S.holds (c, m) (if j = Rs.length then Hc else F j)) ∧ (if j = Rs.length then Hc else F j) c ≠ none
    by_cases e : j = Rs.length
    · rw [if_pos e]
      rw [e, List.getElem?_append_right (Nat.le_refl _), Nat.sub_self] at hS
      rw [e, ← hl, List.getElem?_append_right (Nat.le_refl _), Nat.sub_self] at hc
      simp only [List.getElem?_cons_zero, Option.some.injEq] at hS hc
      subst hS hc
      exact ⟨⟨m, hR⟩, hb⟩
    · rw [if_neg e]
      rw [List.getElem?_append_left (by omega)] at hS
      rw [List.getElem?_append_left (by omega)] at hc
      exact h3 j c S hS hc
end
theorem lvs_later {S S' : Nat → Option (Option Box)} {ι ι' : Nat → Nat × Nat} (h : Later S S' ι ι') : ∀ {l : List LV} {vs : List Value}, LVs.rel S ι l vs → LVs.rel S' ι' l vs
  | [], [], _ => trivial
  | [], _ :: _, hr => hr.elim
  | _ :: _, [], hr => hr.elim
  | _ :: _, _ :: _, hr => ⟨LV.rel_later h hr.1, lvs_later h hr.2⟩
theorem MSpec.at {P : Program} {X : Nat → Option Obj} {f : FuncId} {k b : Nat} {args : List LV} {r : LV} {R R' : Rsc} {post : List (Nat × Option Box)} (h : MSpec P X f (.sv (.one (.ptr k 0)) :: args) [(k, some ⟨0, [], .res R⟩)] r ((k, some ⟨0, [], .res R'⟩) :: post)) :
    MSpec P X f (.sv (.one (.val (.pointer (some ⟨b, 0, none⟩)))) :: args) [(k, some ⟨0, [], .res (atR b R)⟩)] r ((k, some ⟨0, [], .res (atR b R')⟩) :: post) := by
  have hcons : ∀ (l : List (Nat × Option Box)) (x : Option Box) (j : Nat), stOf ((k, x) :: l) j = if j = k then some x else stOf l j := fun l x j => stat_cons [] l (fun _ => none) k j x
  have hlater : ∀ (l : List (Nat × Option Box)) (ι : Nat → Nat × Nat) (A B : Rsc), Later (stOf ((k, some ⟨0, [], .res A⟩) :: l)) (stOf ((k, some ⟨0, [], .res B⟩) :: l)) ι ι := fun l ι A B => later_same ι fun j hj => by
    rw [hcons] at hj ⊢
    rw [hcons]
    by_cases e : j = k
    · rw [if_pos e, if_pos e]; exact ⟨by simp, fun _ _ => ⟨_, rfl⟩⟩
    · rw [if_neg e] at hj ⊢
      rw [if_neg e]; exact ⟨hj, fun b1 hb1 => ⟨b1, hb1⟩⟩
  have conv : ∀ (l : List (Nat × Option Box)) (A B : Rsc) (ι : Nat → Nat × Nat) (H : Nat → Nat → Option Obj) (w : World), (A.holds (ι k) (H k) → B.holds (ι k) (H k)) → MemOf X ι H ((k, some ⟨0, [], .res A⟩) :: l) w → MemOf X ι H ((k, some ⟨0, [], .res B⟩) :: l) w := fun l A B ι H w hAB hM => by
    have live : ∀ j x, stOf ((k, some ⟨0, [], .res B⟩) :: l) j = some (some x) → ∃ y, stOf ((k, some ⟨0, [], .res A⟩) :: l) j = some (some y) ∧ (j ≠ k → x = y) := fun j x hj => by
      rw [hcons] at hj ⊢
      by_cases e : j = k
      · rw [if_pos e]; exact ⟨_, rfl, fun h => absurd e h⟩
      · rw [if_neg e] at hj ⊢; exact ⟨x, hj, fun _ => rfl⟩
    refine ⟨fun j x hj hb => ?_, fun j x hj => ?_, fun i j bi bj hi hj he => ?_, hM.ext, ?_⟩
    · obtain ⟨y, hy, hne⟩ := live j x hj
      by_cases e : j = k
      · rw [hcons, if_pos e] at hj
        simp only [Option.some.injEq] at hj
        subst hj; cases hb
      · have := hne e
        subst this
        obtain ⟨arr, fr, h1, h2, h3, h4⟩ := hM.boxes j x hy hb
        exact ⟨arr, fr, h1, h2, h3, Box.rel_later (hlater l ι A B) h4⟩
    · obtain ⟨y, hy, _⟩ := live j x hj
      exact hM.apart j y hy
    · obtain ⟨y, hy, _⟩ := live i bi hi
      obtain ⟨z, hz, _⟩ := live j bj hj
      exact hM.inj i j y z hy hz he
    · refine ⟨fun j e' cs' R1 hj => ?_, fun j x o ho => ?_, hM.res.apart⟩
      · rw [hcons] at hj
        by_cases e : j = k
        · rw [if_pos e] at hj
          simp only [Option.some.injEq, Box.mk.injEq, Row.res.injEq] at hj
          obtain ⟨_, _, rfl⟩ := hj
          obtain ⟨h1, h2⟩ := hM.res.holds k 0 [] A (by rw [hcons, if_pos rfl])
          rw [e]; exact ⟨hAB h1, h2⟩
        · rw [if_neg e] at hj
          exact hM.res.holds j e' cs' R1 (by rw [hcons, if_neg e]; exact hj)
      · obtain ⟨⟨e1, cs1, R1, h1⟩, h2, h3, h4, h5, h6⟩ := hM.res.mem j x o ho
        refine ⟨?_, h2, h3, h4, h5, fun i bi hi ei => ?_⟩
        · by_cases e : j = k
          · exact ⟨0, [], B, by rw [hcons, if_pos e]⟩
          · exact ⟨e1, cs1, R1, by rw [hcons, if_neg e]; rw [hcons, if_neg e] at h1; exact h1⟩
        · obtain ⟨y, hy, _⟩ := live i bi hi
          exact h6 i y hy ei
  refine ⟨h.enters, fun w vals ι H hM hargs => ?_⟩
  obtain ⟨⟨hb, hR⟩, _⟩ := hM.res.holds k 0 [] (atR b R) (by rw [hcons, if_pos rfl])
  have hM0 := conv [] (atR b R) R ι H w (fun h => h.2) hM
  have hargs0 : LVs.rel (stOf [(k, some ⟨0, [], .res R⟩)]) ι (.sv (.one (.ptr k 0)) :: args) vals.toList := by
    cases hv : vals.toList with
    | nil => rw [hv] at hargs; exact hargs.elim
    | cons v vs =>
      rw [hv] at hargs
      obtain ⟨h1, h2⟩ := hargs
      refine ⟨?_, ?_⟩
      · have h1 : v = .pointer (some ⟨b, 0, none⟩) := h1
        simp only [LV.rel, SV.rel, CV.rel]
        rw [hcons, if_pos rfl]
        simp only
        rw [h1, hb]
      · exact lvs_later (hlater [] ι (atR b R) R) h2
  refine (h.out w vals ι H hM0 hargs0).mono ?_
  rintro e w' ⟨v, ι', H', rfl, hv, hM', hP⟩
  have hold := (hP.old k ⟨0, [], .res R'⟩ (by rw [hcons, if_pos rfl]) (by rw [hcons, if_pos rfl]; simp)).2
  have hlen : ∀ j, stOf [(k, some (⟨0, [], .res (atR b R)⟩ : Box))] j = none ↔ stOf [(k, some (⟨0, [], .res R⟩ : Box))] j = none := fun j => by
    rw [hcons, hcons]
    by_cases e : j = k
    · rw [if_pos e, if_pos e]; simp
    · rw [if_neg e, if_neg e]
  have hlent : ∀ x, LentB [(k, some (⟨0, [], .res (atR b R)⟩ : Box))] ι H x ↔ LentB [(k, some (⟨0, [], .res R⟩ : Box))] ι H x := fun x => by
    have go : ∀ A B : Rsc, LentB [(k, some (⟨0, [], .res A⟩ : Box))] ι H x → LentB [(k, some (⟨0, [], .res B⟩ : Box))] ι H x := fun A B h => by
      rcases h with ⟨j, b0, h1, h2⟩ | h
      · rw [hcons] at h1
        by_cases e : j = k
        · exact .inl ⟨j, _, by rw [hcons, if_pos e], h2⟩
        · rw [if_neg e] at h1; cases h1
      · exact .inr h
    exact ⟨go _ _, go _ _⟩
  have live : ∀ j x, stOf ((k, some ⟨0, [], .res (atR b R')⟩) :: post) j = some (some x) → ∃ y, stOf ((k, some ⟨0, [], .res R'⟩) :: post) j = some (some y) := fun j x hj => by
    rw [hcons] at hj ⊢
    by_cases e : j = k
    · rw [if_pos e]; exact ⟨_, rfl⟩
    · rw [if_neg e] at hj ⊢; exact ⟨x, hj⟩
  refine ⟨v, ι', H', rfl, LV.rel_later (hlater post ι' R' (atR b R')) hv, conv post R' (atR b R') ι' H' w' (fun h => ⟨by rw [hold]; exact hb, h⟩) hM', ⟨fun j x hj hn => ?_, fun j x hj hn => ?_, fun j x hj => ?_, fun x hx hn => hP.frame x hx fun h => hn ((hlent x).2 h), hP.big, hP.os, hP.tape, hP.output⟩⟩
  · obtain ⟨y, hy⟩ := live j x hj
    obtain ⟨⟨b0, h1⟩, h2⟩ := hP.old j y hy fun h => hn ((hlen j).2 h)
    refine ⟨?_, h2⟩
    rw [hcons] at h1 ⊢
    by_cases e : j = k
    · rw [if_pos e]; exact ⟨_, rfl⟩
    · rw [if_neg e] at h1; cases h1
  · obtain ⟨y, hy⟩ := live j x hj
    rcases hP.new j y hy ((hlen j).1 hn) with h | h
    · exact .inl h
    · exact .inr ((hlent _).2 h)
  · rcases hP.newH j x hj with h | h
    · exact .inl h
    · exact .inr ((hlent _).2 h)
end Go.Lg
end
section
namespace Go.Proofs.Ytjifibloagkeeaa
open Go Go.Lg Go.Lg.Fld Go.Lg.Sg Go.Lg.Col
set_option maxRecDepth 100000
def onlyC (cs : List Cp) (set : Nat) : List Cp := cs.filter fun c => hasB set c.id
def valR (r : Rw) (k : Nat) : List (Bool × Int) := match r.p[k]? with | some p => p.val | none => []
def colL (l : List Rw) (k : Nat) (c : Cp) : List (List UInt8) := l.map fun r => packB c.fs (valR r k)
def colsG (f : Nat → Cp → List (List UInt8)) (most : Nat) (cs : List Cp) : List Rsc := cs.mapIdx fun k c => colR (rowSize c.fs) most (f k c)
def colsT (t : Tb) : List Rsc := colsG (colL t.l) t.most (onlyC t.sc.cs t.set)
theorem colsG_at {f : Nat → Cp → List (List UInt8)} {most : Nat} {cs : List Cp} {k : Nat} {c : Cp} (h : cs[k]? = some c) : (colsG f most cs)[k]? = some (colR (rowSize c.fs) most (f k c)) := by
  unfold colsG; rw [List.getElem?_mapIdx, h]; rfl
theorem colsG_len (f : Nat → Cp → List (List UInt8)) (most : Nat) (cs : List Cp) : (colsG f most cs).length = cs.length := by unfold colsG; rw [List.length_mapIdx]
theorem sorted_ext : ∀ {a b : List Int}, a.Pairwise (· < ·) → b.Pairwise (· < ·) → (∀ x, x ∈ a ↔ x ∈ b) → a = b
  | [], [], _, _, _ => rfl
  | [], y :: b, _, _, h => absurd ((h y).2 (List.mem_cons_self ..)) (by simp)
  | x :: a, [], _, _, h => absurd ((h x).1 (List.mem_cons_self ..)) (by simp)
  | x :: a, y :: b, ha, hb, h => by
    obtain ⟨ha1, ha2⟩ := List.pairwise_cons.1 ha
    obtain ⟨hb1, hb2⟩ := List.pairwise_cons.1 hb
    have e : x = y := by
      rcases List.mem_cons.1 ((h x).1 (List.mem_cons_self ..)) with e | h1
      · exact e
      · rcases List.mem_cons.1 ((h y).2 (List.mem_cons_self ..)) with e | h2
        · exact e.symm
        · have := hb1 x h1; have := ha1 y h2; omega
    subst e
    rw [sorted_ext ha2 hb2 fun z => ?_]
    constructor
    · intro hz
      rcases List.mem_cons.1 ((h z).1 (List.mem_cons_of_mem _ hz)) with e | h1
      · have := ha1 z hz; omega
      · exact h1
    · intro hz
      rcases List.mem_cons.1 ((h z).2 (List.mem_cons_of_mem _ hz)) with e | h1
      · have := hb1 z hz; omega
      · exact h1
theorem idsL_sorted (a : Nat) : (idsL a).Pairwise (· < ·) := by
  unfold idsL idsTo
  rw [List.pairwise_map]
  refine List.Pairwise.imp (R := fun i j => i < j) (fun {i j} (h : i < j) => by omega) (List.Pairwise.filter _ List.pairwise_lt_range)
theorem goodC16 {s : Sc} (h : chkE s = 0) : Fld.Good s.cs := by
  unfold chkE at h
  split at h
  · cases h
  · exact good_of h
theorem pair16 {cs : List Cp} (h : Fld.Good cs) : cs.Pairwise (fun c d => c.id < d.id) := by
  rw [List.pairwise_iff_getElem]
  intro i j hi hj hij
  exact (h.two i j _ _ hij (List.getElem?_eq_getElem hi) (List.getElem?_eq_getElem hj)).1
theorem lay16 {s : Sc} (h : chkE s = 0) {c : Cp} (hc : c ∈ s.cs) : layErr c.fs = 0 := by
  obtain ⟨i, hi⟩ := List.mem_iff_getElem?.1 hc
  exact ((goodC16 h).one i c hi).2.2.2.2
theorem only_mem {cs : List Cp} {set : Nat} {c : Cp} (h : c ∈ onlyC cs set) : c ∈ cs ∧ hasB set c.id = true := List.mem_filter.1 h
theorem only_ids {s : Sc} {set : Nat} (h : chkE s = 0) (hh : ∀ id ∈ idsL set, hasC s.cs id = true) : (onlyC s.cs set).map Cp.id = idsL set := by
  refine sorted_ext ?_ (idsL_sorted set) fun x => ?_
  · rw [List.pairwise_map]
    exact (pair16 (goodC16 h)).filter _
  · have hx : x ∈ idsL set ↔ hasB set x = true := by
      rw [← any_ids, List.any_eq_true]
      exact ⟨fun h => ⟨x, h, beq_iff_eq.2 rfl⟩, fun ⟨y, h1, h2⟩ => by rw [← beq_iff_eq.1 h2]; exact h1⟩
    rw [List.mem_map]
    constructor
    · rintro ⟨c, hc, rfl⟩
      exact hx.2 (only_mem hc).2
    · intro hm
      have h1 := hh x hm
      unfold hasC at h1
      rw [List.any_eq_true] at h1
      obtain ⟨c, hc, he⟩ := h1
      rw [beq_iff_eq] at he
      exact ⟨c, List.mem_filter.2 ⟨hc, by rw [he]; exact hx.1 hm⟩, he⟩
section
variable {t : Tb} (hk : TbOk t)
include hk
theorem t_ids : (onlyC t.sc.cs t.set).map Cp.id = idsL t.set := only_ids hk.sc hk.has
theorem t_len : (onlyC t.sc.cs t.set).length = (idsL t.set).length := by rw [← t_ids hk, List.length_map]
theorem t_len24 : (onlyC t.sc.cs t.set).length ≤ 24 := by rw [t_len hk]; exact ids_le _
theorem t_lay {k : Nat} {c : Cp} (h : (onlyC t.sc.cs t.set)[k]? = some c) : layErr c.fs = 0 := lay16 hk.sc (only_mem (List.mem_of_getElem? h)).1
theorem t_size {k : Nat} {c : Cp} (h : (onlyC t.sc.cs t.set)[k]? = some c) : c.fs.length ≤ 8 ∧ rowSize c.fs ≤ 256 ∧ ∀ ns, (packB c.fs ns).length = rowSize c.fs := by
  obtain ⟨h1, h2, h3⟩ := layErr_facts (t_lay hk h)
  exact ⟨h1, h3, fun ns => packB_len h2 ns⟩
end
def entV (l : List Nat) : List Value := l.map fun e => .int .u64 (e : Nat)
def EntsAt (H : Nat → Option Obj) (v : Value) (l : List Nat) : Prop := (v = nilSlc ∧ l = []) ∨ ∃ db, LeadsTo H db v 129 1 (entV l)
def PtrsIn (X : Nat → Option Obj) (v : Value) (ps : List Nat) : Prop := ∃ (pad : Option Addr) (cap : Nat), v = .slice pad ps.length cap ∧ ∀ (i b : Nat), ps[i]? = some b →
  ∃ (blk : Nat) (arr : Array Value) (el : TypeId) (fr : Nat × Nat), pad = some ⟨blk, 0, none⟩ ∧ X blk = some (.cells arr el fr) ∧ arr[i]? = some (.pointer (some ⟨b, 0, none⟩))
theorem PtrsIn.mono {X Y : Nat → Option Obj} {v : Value} {ps : List Nat} (h : PtrsIn X v ps) (hXY : ∀ b o, X b = some o → Y b = some o) : PtrsIn Y v ps := by
  obtain ⟨pad, cap, h1, h2⟩ := h
  refine ⟨pad, cap, h1, fun i b hb => ?_⟩
  obtain ⟨blk, arr, el, fr, g1, g2, g3⟩ := h2 i b hb
  exact ⟨blk, arr, el, fr, g1, hXY _ _ g2, g3⟩
theorem EntsAt.slice {H : Nat → Option Obj} {v : Value} {l : List Nat} (h : EntsAt H v l) : ∃ ad cap, v = .slice ad l.length cap := by
  rcases h with ⟨rfl, rfl⟩ | ⟨db, len, cap, arr, fr, rfl, h2, _⟩
  · exact ⟨none, 0, rfl⟩
  · have : len = l.length := by unfold entV at h2; rw [List.length_map] at h2; omega
    rw [this]; exact ⟨_, cap, rfl⟩
structure TabIn (t : Tb) (Hs He Hr : Nat → Option Obj) (vE vC vP : Value) (ps : List Nat) : Prop where
  sc : ∃ (cb cc : Nat), vC = .slice (some ⟨cb, 0, none⟩) (onlyC t.sc.cs t.set).length cc ∧ CompsIn Hs (some ⟨cb, 0, none⟩) (onlyC t.sc.cs t.set)
  ptrs : PtrsIn Hs vP ps
  refs : Refs Hr ps (colsT t)
  ents : EntsAt He vE (t.l.map Rw.e)
  two : ∀ r ∈ t.l, ∀ p ∈ r.p, ∀ u ∈ p.val, In2 u.2
abbrev tblV (t : Tb) (vE vC vP : Value) : List Value := [.int .u32 (t.set : Nat), .int .i64 (t.most : Nat), .int .i64 (t.kept : Nat), vE, .int .i64 t.sc.ver, vC, vP]
def tbM (m : Bool) (t : Tb) : Rsc := ⟨fun ρ H => ρ.2 = 7 ∧ ∃ (fr : Nat × Nat) (Hs He Hr : Nat → Option Obj) (vE vC vP : Value) (ps : List Nat), H ρ.1 = some (.cells (tblV t vE vC vP).toArray 65 fr) ∧
  cutM H ρ.1 = joinM (joinM Hs He) Hr ∧ (∀ b, He b ≠ none → Hs b = none) ∧ (∀ b, Hr b ≠ none → joinM Hs He b = none) ∧ TabIn t Hs He Hr vE vC vP ps ∧ (m = true ↔ vE ≠ nilSlc)⟩
def tbR (t : Tb) : Rsc := ⟨fun ρ H => ∃ m, (tbM m t).holds ρ H⟩
abbrev tB (k : Nat) (t : Tb) : Nat × Option Box := (k, some ⟨0, [], .res (tbR t)⟩)
abbrev tM (k : Nat) (m : Bool) (t : Tb) : Nat × Option Box := (k, some ⟨0, [], .res (tbM m t)⟩)
abbrev tS (k : Nat) (t : Tb) (vE : CV) (vC vP : Value) : Nat × Option Box := (k, some ⟨65, [.val (.int .u32 (t.set : Nat)), .val (.int .i64 (t.most : Nat)), .val (.int .i64 (t.kept : Nat)), vE, .val (.int .i64 t.sc.ver), .val vC, .val vP], false⟩)
abbrev tH (X Hs He Hr : Nat → Option Obj) : Nat → Option Obj := joinM (joinM (joinM X Hs) He) Hr
section
variable {P : Program} {n : Nat} {C : Ctx} {c : Code} {Q : Exit → St → Prop} {X : Nat → Option Obj} {s : List (Nat × LV)} {bx : List (Nat × Option Box)} {k : Nat}
theorem own_join {H A B : Nat → Option Obj} (h : OwnedM C X H) (e : H = joinM A B) (hd : ∀ b, B b ≠ none → A b = none) : OwnedM C X A ∧ OwnedM C (joinM X A) B := by
  subst e
  refine ⟨⟨fun b o hb => ?_⟩, ⟨fun b o hb => ?_⟩⟩
  · refine h.own b o ?_
    cases hc : B b with
    | none => rw [joinM_out hc]; exact hb
    | some o' => have := hd b (by rw [hc]; simp); rw [hb] at this; cases this
  · obtain ⟨h1, h2, h3⟩ := h.own b o (joinM_in hb)
    exact ⟨h1, h2, by rw [joinM_out (hd b (by rw [hb]; simp))]; exact h3⟩
theorem own_far {A B : Nat → Option Obj} (h : OwnedM C (joinM X A) B) {b : Nat} (hb : B b ≠ none) : A b = none := by
  cases ho : B b with
  | none => exact absurd ho hb
  | some o => exact (joinM_none (h.own b o ho).2.2).1
theorem tabM_shut {Mid : St → Prop} {m : Bool} {t : Tb} {Hs He Hr : Nat → Option Obj} {vE vC vP : Value} {ps : List Nat} (h1 : OwnedM C X Hs) (h2 : OwnedM C (joinM X Hs) He) (h3 : OwnedM C (joinM (joinM X Hs) He) Hr) (hI : TabIn t Hs He Hr vE vC vP ps) (hm : m = true ↔ vE ≠ nilSlc)
    (h : Leads n C Mid ⟨s, tM k m t :: bx, X⟩) : Leads n C Mid ⟨s, tS k t (.val vE) vC vP :: bx, tH X Hs He Hr⟩ := by
  unfold tH
  rw [joinM_join X Hs He, joinM_join]
  have h3' : OwnedM C (joinM X (joinM Hs He)) Hr := by rw [← joinM_join]; exact h3
  refine Leads.closeRes (vals := tblV t vE vC vP) ((h1.join h2).join h3' ) (fun ρ fr g1 g2 g3 => ?_) h
  refine ⟨g3, fr, Hs, He, Hr, vE, vC, vP, ps, withBlock_at _ _ _, ?_, fun b hb => own_far h2 hb, fun b hb => own_far h3' hb, hI, hm⟩
  rw [cut_with g1]
theorem tab_shut {Mid : St → Prop} {t : Tb} {Hs He Hr : Nat → Option Obj} {vE vC vP : Value} {ps : List Nat} (h1 : OwnedM C X Hs) (h2 : OwnedM C (joinM X Hs) He) (h3 : OwnedM C (joinM (joinM X Hs) He) Hr) (hI : TabIn t Hs He Hr vE vC vP ps)
    (h : Leads n C Mid ⟨s, tB k t :: bx, X⟩) : Leads n C Mid ⟨s, tS k t (.val vE) vC vP :: bx, tH X Hs He Hr⟩ := by
  refine tabM_shut (m := (open Classical in decide (vE ≠ nilSlc))) h1 h2 h3 hI (by simp) (Leads.resTo (R2 := tbR t) (fun ρ H hh => ⟨_, hh⟩) h)
end
end Go.Proofs.Ytjifibloagkeeaa
end
section
namespace Go.Proofs.Ytjifibloagkeeaa
open Go Go.Lg Go.Lg.Fld Go.Lg.Sg Go.Lg.Col
set_option maxRecDepth 100000
end Go.Proofs.Ytjifibloagkeeaa
end
section
namespace Go.Proofs.Ytjifibloagkeeaa
open Go Go.Lg Go.Lg.Fld Go.Lg.Sg Go.Lg.Col
set_option maxRecDepth 100000
abbrev LnilT : LV := .sv (.one (.val (.pointer none)))
abbrev vS (ad : Option Addr) (n cap : Nat) : CV := .val (.slice ad n cap)
variable (X : Nat → Option Obj)
section
variable (t : Tb) (ad : Option Addr) (n cap : Nat) (vC vP : Value)
end
end Go.Proofs.Ytjifibloagkeeaa
end
section
namespace Go.Proofs.Ytjifibloagkeeaa
open Go Go.Lg Go.Lg.Fld Go.Lg.Sg Go.Lg.Col
set_option maxRecDepth 100000
theorem colR_root (z q : Nat) (L : List (List UInt8)) : ∀ ρ H, (colR z q L).holds ρ H → H ρ.1 ≠ none := fun ρ H h => by
  obtain ⟨_, _, _, _, _, h2, _⟩ := h
  rw [h2]; simp
section
variable {P : Program} {n : Nat} {C : Ctx} {c : Code} {Q : Exit → St → Prop} {Y : Nat → Option Obj} {s : List (Nat × LV)} {bx : List (Nat × Option Box)}
end
variable (X : Nat → Option Obj)
section
variable (t : Tb) (hk : TbOk t) (ad : Option Addr) (cap : Nat) (vP : Value) (row comp : Int)
include hk
end
end Go.Proofs.Ytjifibloagkeeaa
end
section
namespace Go.Proofs.Ytjifibloagkeeaa
open Go Go.Lg Go.Lg.Fld Go.Lg.Sg Go.Lg.Col
set_option maxRecDepth 100000
theorem EntsAt.at {H : Nat → Option Obj} {v : Value} {l : List Nat} (h : EntsAt H v l) {i e : Nat} (hi : l[i]? = some e) : ∃ (db cap : Nat) (arr : Array Value) (fr : Nat × Nat), v = .slice (some ⟨db, 0, none⟩) l.length cap ∧ H db = some (.cells arr 129 fr) ∧ arr[i]? = some (.int .u64 (e : Nat)) := by
  rcases h with ⟨_, rfl⟩ | ⟨db, len, cap, arr, fr, rfl, h2, _, _, h5, sp, h6⟩
  · simp at hi
  · have hl : len = l.length := by unfold entV at h2; rw [List.length_map] at h2; omega
    refine ⟨db, cap, arr, fr, by rw [hl], h5, ?_⟩
    rw [← Array.getElem?_toList, h6, List.getElem?_append_left (by unfold entV; rw [List.length_map]; exact (List.getElem?_eq_some_iff.1 hi).1)]
    unfold entV
    rw [List.getElem?_map, hi]; rfl
variable (X : Nat → Option Obj)
theorem tSig_nil : PSpec Try.prog X 10 [LnilT] (Ln .u32 0) := by
  refine PSpec.intro Try.func10 rfl (by kernel_rfl) rfl rfl ?_
  intro C
  (refine LWP.seq <| LWP.region (by kernel_rfl) <| kas rfl <| RunK.nil <| LWP.seq <| LWP.seq <| LWP.region (by kernel_rfl) <| kmv rfl <| K.nilNil rfl (by kernel_rfl) (.inl ⟨rfl, rfl⟩) .plain <| RunK.nil <| LWP.condT rfl ?_; refine LWP.seq <| LWP.region (by kernel_rfl) <| kas rfl <| RunK.nil <| LWP.ret ?_)
  exact ⟨[_], ⟨rfl, trivial⟩, rfl⟩
theorem EntsAt.mono {H Y : Nat → Option Obj} {v : Value} {l : List Nat} (h : EntsAt H v l) (hY : ∀ b o, H b = some o → Y b = some o) : EntsAt Y v l := by
  rcases h with h | ⟨db, len, cap, arr, fr, g1, g2, g3, g4, g5, g6⟩
  · exact .inl h
  · exact .inr ⟨db, len, cap, arr, fr, g1, g2, g3, g4, hY _ _ g5, g6⟩
end Go.Proofs.Ytjifibloagkeeaa
end
section
namespace Go.Proofs.Ytjifibloagkeeaa
open Go Go.Lg Go.Lg.Fld Go.Lg.Sg Go.Lg.Col
set_option maxRecDepth 100000
variable (X : Nat → Option Obj)
end Go.Proofs.Ytjifibloagkeeaa
end
section
namespace Go.Proofs.Ytjifibloagkeeaa
open Go Go.Lg Go.Lg.Fld Go.Lg.Sg Go.Lg.Col
set_option maxRecDepth 100000
variable (X : Nat → Option Obj)
end Go.Proofs.Ytjifibloagkeeaa
end
section
namespace Go.Proofs.Ytjifibloagkeeaa
open Go Go.Lg Go.Lg.Fld Go.Lg.Sg Go.Lg.Col
set_option maxRecDepth 100000
variable (X : Nat → Option Obj)
end Go.Proofs.Ytjifibloagkeeaa
end
section
namespace Go.Proofs.Ytjifibloagkeeaa
open Go Go.Lg Go.Lg.Fld Go.Lg.Sg Go.Lg.Col
set_option maxRecDepth 100000
variable (X : Nat → Option Obj)
end Go.Proofs.Ytjifibloagkeeaa
end
section
namespace Go.Proofs.Ytjifibloagkeeaa
open Go Go.Lg Go.Lg.Fld Go.Lg.Sg Go.Lg.Col
set_option maxRecDepth 100000
def pvs (ps : List Nat) : List Value := ps.map fun b => .pointer (some ⟨b, 0, none⟩)
theorem pvs_len (ps : List Nat) : (pvs ps).length = ps.length := List.length_map _
theorem ptrs_leads {H : Nat → Option Obj} {b : Nat} {v : Value} {el : TypeId} {ps : List Nat} (h : LeadsTo H b v el 1 (pvs ps)) : PtrsIn H v ps := by
  obtain ⟨len, cap, arr, fr, rfl, h2, _, _, h5, sp, h6⟩ := h
  rw [pvs_len] at h2
  have e : len = ps.length := by omega
  refine ⟨some ⟨b, 0, none⟩, cap, by rw [e], fun i x hx => ⟨b, arr, el, fr, rfl, h5, ?_⟩⟩
  rw [← Array.getElem?_toList, h6, List.getElem?_append_left (by rw [pvs_len]; exact (List.getElem?_eq_some_iff.1 hx).1)]
  unfold pvs
  rw [List.getElem?_map, hx]; rfl
variable (X : Nat → Option Obj)
abbrev tO (k : Nat) (t : Tb) (vE vC vP : CV) : Nat × Option Box := (k, some ⟨65, [.val (.int .u32 (t.set : Nat)), .val (.int .i64 (t.most : Nat)), .val (.int .i64 (t.kept : Nat)), vE, .val (.int .i64 t.sc.ver), vC, vP], false⟩)
end Go.Proofs.Ytjifibloagkeeaa
end
section
namespace Go.Lg
open Go Go.RowKit
section
variable {P : Program} {X : Nat → Option Obj} {pre : List (Nat × Option Box)} {ι : Nat → Nat × Nat} {H : Nat → Nat → Option Obj} {w : World}
theorem lentBox_mem (hM : MemOf X ι H pre w) {k : Nat} {b : Box} (hst : stOf pre k = some (some b)) : LentBox (fun i => w.heap[i]?) b (ι k).1 (ι k).2 := by
  obtain ⟨e, cs, row⟩ := b
  cases row with
  | bool r =>
    obtain ⟨arr, fr, harr, _, hsz, hbr⟩ := hM.boxes k _ hst rfl
    unfold Box.rel at hbr
    cases r with
    | false => exact ⟨arr, fr, arr.toList, [], harr, hsz, by simp, fun vals e => by simp only at e hbr; rw [e] at hbr; exact rel_vals hbr⟩
    | true =>
      obtain ⟨us, sp, e, hl⟩ := hbr
      exact ⟨arr, fr, us, sp, harr, hsz, e, fun vals e => by simp only at e hl; rw [e] at hl; exact rel_vals hl⟩
  | res R => exact ⟨H k, (hM.res.holds k _ _ _ hst).1, fun i o h => (hM.res.mem k i o h).2.1⟩
theorem lentC_mem (hM : MemOf X ι H pre w) (ks : List Nat) {c : CV} {u : Value} (hl : lendC (stOf pre) ks c = true) (h : c.rel (stOf pre) ι u) : LentC (stOf pre) (fun i => w.heap[i]?) c u := by
  cases c with
  | val v => exact h
  | slc k off len sz =>
    simp only [lendC, Bool.and_eq_true] at hl
    cases hs : stOf pre k with
    | none => rw [hs] at hl; exact absurd hl.2 (by simp)
    | some x =>
      cases x with
      | none => rw [hs] at hl; exact absurd hl.2 (by simp)
      | some b =>
        simp only [CV.rel, hs] at h
        obtain ⟨cap, rfl, h3, h4⟩ := h
        exact ⟨b, _, cap, _, hs, rfl, h3, h4, lentBox_mem hM hs⟩
  | ptr _ _ => cases hl
  | mp _ => cases hl
  | fn _ _ _ => cases hl
  | hang _ _ _ => cases hl
  | junk => cases hl
theorem lentCs_mem (hM : MemOf X ι H pre w) (ks : List Nat) : ∀ {cs : List CV} {us : List Value}, cs.all (lendC (stOf pre) ks) = true → CVs.rel (stOf pre) ι cs us → LentCs (stOf pre) (fun i => w.heap[i]?) cs us
  | [], [], _, _ => rfl
  | [], _ :: _, _, h => h.elim
  | _ :: _, [], _, h => h.elim
  | c :: l, u :: us, hl, h => by
    simp only [List.all_cons, Bool.and_eq_true] at hl
    exact ⟨u, us, rfl, lentC_mem hM ks hl.1 h.1, lentCs_mem hM ks hl.2 h.2⟩
theorem lentLs_mem (hM : MemOf X ι H pre w) (ks : List Nat) : ∀ {lvs : List LV} {us : List Value}, lvs.all (lendL (stOf pre) ks) = true → LVs.rel (stOf pre) ι lvs us → LentLs (stOf pre) (fun i => w.heap[i]?) lvs us
  | [], [], _, _ => rfl
  | [], _ :: _, _, h => h.elim
  | _ :: _, [], _, h => h.elim
  | lv :: l, u :: us, hl, h => by
    simp only [List.all_cons, Bool.and_eq_true] at hl
    refine ⟨u, us, rfl, ?_, lentLs_mem hM ks hl.2 h.2⟩
    have h1 := h.1
    have h2 := hl.1
    match lv with
    | .sv (.one c) => exact lentC_mem hM ks h2 h1
    | .sv (.agg cs) =>
      obtain ⟨arr, rfl, hl'⟩ := h1
      exact ⟨arr.toList, by simp, lentCs_mem hM ks h2 hl'⟩
    | .tup _ => cases h2
theorem Box.rel_means {bx : List (Nat × Option Box)} {S : Nat → Option (Option Box)} {κ : Nat → Nat × Nat} (h : ∀ k, (look k bx).isSome = true → κ k = ι k) {b : Box} (hu : b.cells.all (CV.inUse bx) = true) {vs : List Value} (hr : b.rel S ι vs) : b.rel S κ vs := by
  unfold Box.rel at hr ⊢
  cases hb : b.row with
  | res R => rw [hb] at hr; exact hr.elim
  | bool r =>
    cases r with
    | false => rw [hb] at hr; exact CVs.rel_means h hu hr
    | true =>
      rw [hb] at hr
      obtain ⟨us, sp, e, hl⟩ := hr
      exact ⟨us, sp, e, CVs.rel_means h hu hl⟩
theorem MSpec.lend {f : FuncId} {lvs : List LV} {r : LV} {post : List (Nat × Option Box)} (hent : Program.enters P f = true) (hl : lvs.all (lendL (stOf pre) (pre.map (·.1))) = true)
    (hub : pre.all (fun p => match p.2 with | some b => b.cells.all (CV.inUse pre) | none => true) = true) (hup : post.all (fun p => match p.2 with | some b => b.cells.all (CV.inUse post) | none => true) = true) (hur : r.inUse post = true) (hdis : post.all (fun p => (look p.1 pre).isNone) = true)
    (hs : ∀ (Y : Nat → Option Obj) (us : List Value), (∀ b o, X b = some o → Y b = some o) → LentLs (stOf pre) Y lvs us → MSpec P Y f (us.map toLV) [] r post) : MSpec P X f lvs pre r (pre ++ post) := by
  refine ⟨hent, fun w vals ι H hM hargs => ?_⟩
  have hlent := lentLs_mem hM (pre.map (·.1)) hl hargs
  have hM0 : MemOf (fun b => w.heap[b]?) (fun _ => (0, 0)) (fun _ _ => none) [] w := ⟨fun k b h => (by cases h), fun k b h => (by cases h), fun k k' b b' h => (by cases h), fun b o h => h, ⟨fun k e cs R h => (by cases h), fun k b o h => (by cases h), fun k k' b h => absurd rfl h⟩⟩
  have hc := (hs _ _ hM.ext hlent).out w vals (fun _ => (0, 0)) (fun _ _ => none) hM0 (args_rel _)
  refine hc.mono ?_
  rintro e w' ⟨v, ι', H', rfl, hv, hM', hP⟩
  have hno : ∀ b, ¬ LentB [] (fun _ => (0, 0)) (fun _ _ => none) b := fun b h => by
    rcases h with ⟨k, b0, h, _⟩ | ⟨k, h⟩
    · cases h
    · exact h rfl
  have hst : ∀ k, stOf (pre ++ post) k = (look k pre).or (look k post) := fun k => look_append _ _ _
  have hp1 : ∀ k x, look k pre = some x → stOf (pre ++ post) k = some x := fun k x h => by rw [hst, h]; rfl
  have hdj : ∀ k x, look k post = some x → look k pre = none := fun k x h => by
    have := List.all_eq_true.1 hdis _ (look_mem h)
    simpa using this
  have hp2 : ∀ k x, look k post = some x → stOf (pre ++ post) k = some x := fun k x h => by rw [hst, hdj k x h, h]; rfl
  have hback : ∀ k x, stOf (pre ++ post) k = some x → look k pre = some x ∨ (look k pre = none ∧ look k post = some x) := fun k x h => by
    rw [hst] at h
    cases hp : look k pre with
    | none => rw [hp] at h; exact .inr ⟨rfl, h⟩
    | some y => rw [hp] at h; exact .inl h
  have hgrow : ∀ b o, w.heap[b]? = some o → w'.heap[b]? = some o := fun b o h => hM'.ext b o h
  have hin : ∀ k b, look k pre = some (some b) → ∃ o, w.heap[(ι k).1]? = some o := fun k b h => by
    cases hb : b.blk with
    | true =>
      obtain ⟨arr, fr, h1, _⟩ := hM.boxes k b h hb
      exact ⟨_, h1⟩
    | false =>
      obtain ⟨e, cs, R, rfl⟩ := Box.res_of hb
      have h1 := (hM.res.holds k _ _ _ h).2
      cases ho : H k (ι k).1 with
      | none => exact absurd ho h1
      | some o => exact ⟨o, (hM.res.mem k _ o ho).2.1⟩
  have hout : ∀ k b, look k post = some (some b) → w.heap[(ι' k).1]? = none := fun k b h => hM'.apart k b h
  have hX : ∀ b, w.heap[b]? = none → X b = none := fun b h => by
    cases hx : X b with
    | none => rfl
    | some o => rw [hM.ext b o hx] at h; cases h
  generalize hκ : (fun k => if (look k pre).isSome = true then ι k else ι' k) = κ
  generalize hG : (fun k => if (look k pre).isSome = true then H k else H' k) = G
  have k1 : ∀ k x, look k pre = some x → κ k = ι k := fun k x h => by rw [← hκ]; exact if_pos (by rw [h]; rfl)
  have k2 : ∀ k, look k pre = none → κ k = ι' k := fun k h => by rw [← hκ]; exact if_neg (by rw [h]; decide)
  have g1 : ∀ k x, look k pre = some x → G k = H k := fun k x h => by rw [← hG]; exact if_pos (by rw [h]; rfl)
  have g2 : ∀ k, look k pre = none → G k = H' k := fun k h => by rw [← hG]; exact if_neg (by rw [h]; decide)
  have on1 : SameOn pre (stOf pre) (stOf (pre ++ post)) := fun k x h => h.trans (hp1 k x h).symm
  have on2 : SameOn post (stOf post) (stOf (pre ++ post)) := fun k x h => h.trans (hp2 k x h).symm
  have mn1 : ∀ k, (look k pre).isSome = true → κ k = ι k := fun k h => by
    obtain ⟨x, hx⟩ := Option.isSome_iff_exists.1 h
    exact k1 k x hx
  have mn2 : ∀ k, (look k post).isSome = true → κ k = ι' k := fun k h => by
    obtain ⟨x, hx⟩ := Option.isSome_iff_exists.1 h
    exact k2 k (hdj k x hx)
  have hcp : ∀ k b, look k pre = some (some b) → b.cells.all (CV.inUse pre) = true := fun k b h => by simpa using List.all_eq_true.1 hub _ (look_mem h)
  have hcq : ∀ k b, look k post = some (some b) → b.cells.all (CV.inUse post) = true := fun k b h => by simpa using List.all_eq_true.1 hup _ (look_mem h)
  have hHin : ∀ k b, H k b ≠ none → (∃ x, look k pre = some x) ∧ ∃ o, w.heap[b]? = some o := fun k b h => by
    cases ho : H k b with
    | none => exact absurd ho h
    | some o =>
      obtain ⟨⟨_, _, _, h1⟩, h2, _⟩ := hM.res.mem k b o ho
      exact ⟨⟨_, h1⟩, o, h2⟩
  have hHout : ∀ k b, H' k b ≠ none → w.heap[b]? = none := fun k b h => by
    cases ho : H' k b with
    | none => exact absurd ho h
    | some o => exact (hM'.res.mem k b o ho).2.2.2.2.1
  refine ⟨v, κ, G, rfl, LV.rel_means mn2 hur (LV.rel_on on2 hur hv), ?_, ?_⟩
  · refine ⟨fun k b hk hb => ?_, fun k b hk => ?_, fun k k' b b' hk hk' he => ?_, fun b o hb => hgrow b o (hM.ext b o hb), ?_⟩
    · rcases hback k _ hk with h | ⟨h, h'⟩
      · obtain ⟨arr, fr, q1, q2, q3, q4⟩ := hM.boxes k b h hb
        rw [k1 k _ h]
        exact ⟨arr, fr, hgrow _ _ q1, q2, q3, Box.rel_means mn1 (hcp k b h) (Box.rel_on on1 (hcp k b h) q4)⟩
      · obtain ⟨arr, fr, q1, q2, q3, q4⟩ := hM'.boxes k b h' hb
        rw [k2 k h]
        exact ⟨arr, fr, q1, q2, q3, Box.rel_means mn2 (hcq k b h') (Box.rel_on on2 (hcq k b h') q4)⟩
    · rcases hback k _ hk with h | ⟨h, h'⟩
      · rw [k1 k _ h]; exact hM.apart k b h
      · rw [k2 k h]; exact hX _ (hout k b h')
    · rcases hback k _ hk with h | ⟨h, h'⟩
      · rcases hback k' _ hk' with i | ⟨i, i'⟩
        · rw [k1 k _ h, k1 k' _ i] at he
          exact hM.inj k k' b b' h i he
        · rw [k1 k _ h, k2 k' i] at he
          obtain ⟨o, ho⟩ := hin k b h
          rw [he, hout k' b' i'] at ho
          cases ho
      · rcases hback k' _ hk' with i | ⟨i, i'⟩
        · rw [k2 k h, k1 k' _ i] at he
          obtain ⟨o, ho⟩ := hin k' b' i
          rw [← he, hout k b h'] at ho
          cases ho
        · rw [k2 k h, k2 k' i] at he
          exact hM'.inj k k' b b' h' i' he
    · refine ⟨fun k e cs R hk => ?_, fun k b o ho => ?_, fun k k' b q1 q2 => ?_⟩
      · rcases hback k _ hk with h | ⟨h, h'⟩
        · rw [k1 k _ h, g1 k _ h]; exact hM.res.holds k e cs R h
        · rw [k2 k h, g2 k h]; exact hM'.res.holds k e cs R h'
      · cases h : look k pre with
        | some x =>
          rw [g1 k x h] at ho
          obtain ⟨⟨e1, cs1, R1, q0⟩, q1, q2, q3, q4, q5⟩ := hM.res.mem k b o ho
          refine ⟨⟨e1, cs1, R1, hp1 k _ q0⟩, hgrow _ _ q1, q2, trivial, q4, fun j bj hj e2 => ?_⟩
          rcases hback j _ hj with i | ⟨i, i'⟩
          · rw [k1 j _ i] at e2; exact q5 j bj i e2
          · rw [k2 j i] at e2
            have := hout j bj i'
            rw [e2, q1] at this
            cases this
        | none =>
          rw [g2 k h] at ho
          obtain ⟨⟨e1, cs1, R1, q0⟩, q1, q2, q3, q4, q5⟩ := hM'.res.mem k b o ho
          refine ⟨⟨e1, cs1, R1, hp2 k _ q0⟩, q1, q2, trivial, hX b q4, fun j bj hj e2 => ?_⟩
          rcases hback j _ hj with i | ⟨i, i'⟩
          · rw [k1 j _ i] at e2
            obtain ⟨o2, ho2⟩ := hin j bj i
            rw [e2] at ho2
            rw [show w.heap[b]? = none from q4] at ho2
            cases ho2
          · rw [k2 j i] at e2; exact q5 j bj i' e2
      · cases h : look k pre with
        | some x =>
          rw [g1 k x h] at q1
          cases h2 : look k' pre with
          | some y => rw [g1 k' y h2] at q2; exact hM.res.apart k k' b q1 q2
          | none =>
            rw [g2 k' h2] at q2
            obtain ⟨_, o, ho⟩ := hHin k b q1
            rw [hHout k' b q2] at ho
            cases ho
        | none =>
          rw [g2 k h] at q1
          cases h2 : look k' pre with
          | some y =>
            rw [g1 k' y h2] at q2
            obtain ⟨_, o, ho⟩ := hHin k' b q2
            rw [hHout k b q1] at ho
            cases ho
          | none => rw [g2 k' h2] at q2; exact hM'.res.apart k k' b q1 q2
  · refine ⟨fun k b hk hn => ?_, fun k b hk hn => ?_, fun k b h => ?_, fun b hb _ => hP.frame b hb (hno b), hP.big, hP.os, hP.tape, hP.output⟩
    · rcases hback k _ hk with h | ⟨h, _⟩
      · exact ⟨⟨b, h⟩, k1 k _ h⟩
      · exact absurd h hn
    · rcases hback k _ hk with h | ⟨h, h'⟩
      · have h2 : look k pre = none := hn
        rw [h] at h2; cases h2
      · rw [k2 k h]
        rcases hP.new k b h' rfl with q | q
        · exact .inl q
        · exact absurd q (hno _)
    · cases hp : look k pre with
      | some x => rw [g1 k x hp] at h; exact .inr (.inr ⟨k, h⟩)
      | none =>
        rw [g2 k hp] at h
        rcases hP.newH k b h with q | q
        · exact .inl q
        · exact absurd q (hno _)
end
end Go.Lg
end
section
namespace Go.Lg
open Go
section
variable {P : Program} {n : Nat} {C : Ctx} {c y : Code} {Q : Exit → St → Prop} {Q2 : Exit → St → Prop} {σ : St}
end
end Go.Lg
end
section
namespace Go.Lg
open Go Go.RowKit
section
variable {P : Program} {n : Nat} {ops os : List Oper} {acc : List Eff} {K : List Eff → St → Prop} {s : List (Nat × LV)} {bx : List (Nat × Option Box)} {X : Nat → Option Obj} {σ : St}
theorem range_flat {z : Array Value} {sz : Nat} (hs : z.size = sz) : ∀ m : Nat, ((List.range (m * sz)).map fun i => z[i % z.size]!) = (List.replicate m z.toList).flatten := by
  intro m
  induction m with
  | zero => simp
  | succ m ih =>
    rw [Nat.succ_mul, List.range_add, List.map_append, ih, List.replicate_succ', List.flatten_append]
    congr 1
    rw [List.map_map]
    simp only [List.flatten_cons, List.flatten_nil, List.append_nil]
    apply List.ext_getElem
    · simp [hs]
    · intro i h3 h4
      have hi : i < sz := by simpa [hs] using h4
      have h5 : i % sz = i := Nat.mod_eq_of_lt hi
      have h6 : i < z.size := by omega
      rw [List.getElem_map, Function.comp_apply, List.getElem_range, hs, Nat.mul_add_mod_self_right, h5, Array.getElem_toList]
      exact getElem!_pos z i h6
structure MadeOf (P : Program) (t : TypeId) (e : TypeId) (sz bytes : Nat) (z : List Value) : Prop where
  under : P.underlying t = some (.slice e)
  info : (P.info? e).map (fun i => (i.size, i.zero.map (fun z => z.cells), i.bytes)) = some (sz, some z.toArray, bytes)
  len : z.length = sz
end
end Go.Lg
end
section
namespace Go.Lg
open Go Go.RowKit
section
variable {P : Program} {n : Nat} {ops os : List Oper} {acc : List Eff} {K : List Eff → St → Prop} {s : List (Nat × LV)} {bx : List (Nat × Option Box)} {X : Nat → Option Obj} {σ : St}
end
end Go.Lg
end
section
namespace Go.Lg
open Go Go.RowKit Go.WideShapes
section
variable {P : Program} {n : Nat} {ops os : List Oper} {acc : List Eff} {K : List Eff → St → Prop} {s : List (Nat × LV)} {bx : List (Nat × Option Box)} {X : Nat → Option Obj} {σ : St}
end
end Go.Lg
end
section
namespace Go.Lg
open Go Go.RowKit Go.WideShapes
section
variable {P : Program} {n : Nat} {ops os : List Oper} {acc : List Eff} {K : List Eff → St → Prop} {s : List (Nat × LV)} {bx : List (Nat × Option Box)} {X : Nat → Option Obj} {σ : St}
theorem LOK.actV {op : Op} {ty : TypeId} {pos : String} {after : Array Edge} {g : Option (Nat × Bool)} {ft : List Nat} {nb : List (Nat × Option Box)}
    (h : ∀ σ', Agree ops ⟨none, op, ty, pos, after, g⟩ ⟨[], ft, nb⟩ σ σ' → ∀ (C : Ctx) (ι : Nat → Nat × Nat) (a : Act) (w : World), Rel n C ι σ' a w →
      ∃ v w' ι', (execOp a.eval ⟨none, op, ty, pos, after, g⟩).run P w = .ok (.value v) w' ∧ Rel n C ι' ⟨σ'.slots, nb ++ σ'.boxes, σ'.X⟩ a w') :
    LOK P n ops ⟨none, op, ty, pos, after, g⟩ σ ⟨[], ft, nb⟩ := by
  refine ⟨fun σ' ha C ι a w hr _ next Q hn => ?_⟩
  obtain ⟨v, w', ι', hrun, hr'⟩ := h σ' ha C ι a w hr
  unfold Oper.wp
  rw [hrun]
  exact hn ι' _ w' hr'
end
end Go.Lg
end
section
namespace Go.Lg
open Go Go.RowKit
section
variable {P : Program} {n : Nat} {ops os : List Oper} {acc : List Eff} {K : List Eff → St → Prop} {s : List (Nat × LV)} {bx : List (Nat × Option Box)} {X : Nat → Option Obj} {σ : St}
theorem LOK.cutLoSlc {d k off len sz l : Nat} {t : TypeId} {x y : Operand} {ty : TypeId} {pos : String} {after_ : Array Edge} {g : Option (Nat × Bool)} {kh : IntKind} (hx : σ.ev x = some (.sv (.one (.slc k off len sz)))) (hy : σ.ev y = some (.sv (.one (.val (.int kh (l : Nat))))))
    (ht : sliceOf P t = some sz) (hl : l < len) : LOK P n ops ⟨some d, .slice t x (some y) none none, ty, pos, after_, g⟩ σ ⟨[(d, .sv (.one (.slc k (off + l * sz) (len - l) sz)))], [], []⟩ :=
  LOK.value fun σ' ha C ι a w hr => by
    have h1 := hr.ev ((ha.ev (x := x) (by simp [Op.operands])).trans hx)
    have h2 : a.eval y = .int kh (l : Nat) := hr.ev ((ha.ev (x := y) (by simp [Op.operands])).trans hy)
    obtain ⟨e, hu, hsz⟩ := sliceOf_spec ht
    have hrun : ∀ b c : Nat, len ≤ c → (Instr.sliceAt t (.slice (some ⟨b, off, none⟩) len c) (some (.int kh (l : Nat))) none none).run P w = .ok (.slice (some ⟨b, off + l * sz, none⟩) (len - l) (c - l)) w := by
      intro b c hc
      have ha0 : (⟨b, off, none⟩ : Addr).add (l * sz) = ⟨b, off + l * sz, none⟩ := addr_add _ _ _
      simp [Instr.sliceAt, Instr.slice, run_underlying hu, Instr.sliceBounds, Instr.sliceBound, asIntOf, hsz, ha0]
      rw [if_pos (by omega)]
      have e : ¬ c = l := by omega
      simp [e]
    simp only [LV.rel, SV.rel, CV.rel] at h1 ⊢
    cases hk : σ'.stat k with
    | none => simp [hk] at h1
    | some bb =>
      cases bb with
      | none =>
        simp only [hk] at h1 ⊢
        obtain ⟨b, c, h1, h3⟩ := h1
        exact ⟨_, by simp only [execOp, h1, h2, Option.map_none, Option.map_some, Sem.run_bind, hrun b c h3, Result.andThen_ok, Sem.run_pure], b, c - l, rfl, by omega⟩
      | some b =>
        simp only [hk] at h1 ⊢
        obtain ⟨c, h1, h3, h4⟩ := h1
        refine ⟨_, by simp only [execOp, h1, h2, Option.map_none, Option.map_some, Sem.run_bind, hrun _ c h3, Result.andThen_ok, Sem.run_pure], c - l, rfl, by omega, ?_⟩
        have : l * sz + (c - l) * sz = c * sz := by rw [← Nat.add_mul]; congr 1; omega
        omega
theorem K.cutLoSlc {d k off len sz l off' len' : Nat} {t : TypeId} {x y : Operand} {ty : TypeId} {pos : String} {after_ : Array Edge} {g : Option (Nat × Bool)} {kh : IntKind} (hx : (⟨s, bx, X⟩ : St).ev x = some (.sv (.one (.slc k off len sz)))) (hy : (⟨s, bx, X⟩ : St).ev y = some (.sv (.one (.val (.int kh (l : Nat))))))
    (ht : sliceOf P t = some sz) (hl : l < len) (ho : off + l * sz = off') (hn : len - l = len') (hw : Want ops s g) (kont : RunK P n ops os ⟨(d, .sv (.one (.slc k off' len' sz))) :: s, bx, X⟩ (⟨[(d, .sv (.one (.slc k off' len' sz)))], [], []⟩ :: acc) K) :
    RunK P n ops (⟨some d, .slice t x (some y) none none, ty, pos, after_, g⟩ :: os) ⟨s, bx, X⟩ acc K := by
  subst ho hn
  exact RunK.g1 (LOK.cutLoSlc hx hy ht hl) hw kont
theorem LOK.clearSlc {k off len sz bytes : Nat} {t e el : TypeId} {x : Operand} {ty : TypeId} {pos : String} {after_ : Array Edge} {g : Option (Nat × Bool)} {cells cs' : List CV} {row : Bool} {z : List Value}
    (hx : σ.ev x = some (.sv (.one (.slc k off len sz)))) (hk : σ.stat k = some (some ⟨el, cells, row⟩)) (hM : MadeOf P t e sz bytes z) (hone : z.all Value.oneCell' = true) (hm : off + len * sz ≤ cells.length) (h0 : 0 < len) (hc : splice cells off ((List.replicate len z).flatten.map .val) = cs') :
    LOK P n ops ⟨none, .call ⟨.builtin .clear, #[x], #[t]⟩, ty, pos, after_, g⟩ σ ⟨[], [], [(k, some ⟨el, cs', row⟩)]⟩ :=
  LOK.actV fun σ' ha C ι a w hr => by
    subst hc
    have hk' := (ha.stat k (.inr (by simp))).trans hk
    have h1 := hr.ev ((ha.ev (x := x) (by simp [Op.operands, Call.operands])).trans hx)
    simp only [LV.rel, SV.rel, CV.rel, hk'] at h1
    obtain ⟨c, h1, hlc, hcs⟩ := h1
    obtain ⟨arr, fr, harr, hthaw, hasz, hrel⟩ := hr.boxes k _ hk' rfl
    obtain ⟨hu, hi, hl⟩ := hM
    have hfl : (List.replicate len z).flatten.length = len * sz := by
      rw [List.length_flatten, List.map_replicate, List.sum_replicate_nat, hl]
    have hbl : off + (List.replicate len z).flatten.length ≤ arr.size := by
      have := (Box.rel_part hrel (off := off) (m := len * sz) (by simpa using hm)).1
      simp at this
      rw [hfl]; omega
    have hones : ∀ v ∈ (List.replicate len z).flatten, v.oneCell' = true := fun v hv => by
      obtain ⟨l, hl1, hv⟩ := List.mem_flatten.1 hv
      rw [(List.mem_replicate.1 hl1).2] at hv
      exact List.all_eq_true.1 hone v hv
    cases hie : P.info? e with
    | none => rw [hie] at hi; cases hi
    | some ie =>
      rw [hie] at hi
      simp only [Option.map_some, Option.some.injEq, Prod.mk.injEq] at hi
      obtain ⟨e1, e2, e3⟩ := hi
      cases hz : ie.zero with
      | none => rw [hz] at e2; cases e2
      | some zv =>
        rw [hz] at e2
        simp only [Option.map_some, Option.some.injEq] at e2
        have hzc : (Builtin.zeroCells zv.cells len).toList = (List.replicate len z).flatten := by
          unfold Builtin.zeroCells
          have := range_flat (z := z.toArray) (sz := sz) (by simpa using hl) len
          simp only at this
          rw [e2, Array.toList_map, Array.toList_range]
          simpa [hl] using this
        have hst := run_storeCells_at (P := P) hthaw (List.replicate len z).flatten off 0 arr w rfl harr (by simpa using hbl) hones
        simp only [Nat.add_zero] at hst
        have hzr : (zeroValue e).run P w = .ok zv w := by simp [zeroValue, typeInfo, hie, hz]
        have hrun : (Builtin.clear_ #[t] ty #[.slice (some ⟨(ι k).1, off, none⟩) len c]).run P w = .ok (.tuple #[]) (w.setRow (ι k).1 (splice arr.toList off (List.replicate len z).flatten).toArray) := by
          obtain ⟨m, rfl⟩ : ∃ m, len = m + 1 := ⟨len - 1, by omega⟩
          simp [Builtin.clear_, run_underlying hu, hzr, hzc, hst, Result.andThen]
          simp [splice]
        refine ⟨.tuple #[], w.setRow (ι k).1 (splice arr.toList off (List.replicate len z).flatten).toArray, ι, by simp [execOp, resolve, invoke, builtin, h1, hrun, Result.andThen], ?_⟩
        exact hr.write hk' rfl rfl (b' := ⟨el, splice cells off ((List.replicate len z).flatten.map .val), row⟩) (by rw [← hasz]; unfold splice; simp at hbl ⊢; omega) (Box.rel_splice (b := ⟨el, cells, row⟩) hrel (CVs.rel_map_val _) (by rw [List.length_map, hfl]; exact hm))
theorem K.clearSlc {k off len sz bytes : Nat} {t e el : TypeId} {x : Operand} {ty : TypeId} {pos : String} {after_ : Array Edge} {g : Option (Nat × Bool)} {cells cs' : List CV} {row : Bool} {z : List Value}
    (hx : (⟨s, bx, X⟩ : St).ev x = some (.sv (.one (.slc k off len sz)))) (hk : (⟨s, bx, X⟩ : St).stat k = some (some ⟨el, cells, row⟩)) (hM : MadeOf P t e sz bytes z) (hone : z.all Value.oneCell' = true) (hm : off + len * sz ≤ cells.length) (h0 : 0 < len) (hc : splice cells off ((List.replicate len z).flatten.map .val) = cs') (hw : Want ops s g)
    (kont : RunK P n ops os ⟨s, (k, some ⟨el, cs', row⟩) :: bx, X⟩ (⟨[], [], [(k, some ⟨el, cs', row⟩)]⟩ :: acc) K) :
    RunK P n ops (⟨none, .call ⟨.builtin .clear, #[x], #[t]⟩, ty, pos, after_, g⟩ :: os) ⟨s, bx, X⟩ acc K := RunK.g3 (LOK.clearSlc hx hk hM hone hm h0 hc) hw kont
end
end Go.Lg
end
