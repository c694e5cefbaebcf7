/- A piece of a proof over this program: contracts of its functions, and a logic to prove them by. -/
import Derived.WalkKit
import Derived.Orders
import Derived.IntWalk
import Derived.Shelf.Spec.BitsCarry
section
namespace Go.Lg
open Go Go.RowKit
inductive CV where
  | val (v:Value)
  | junk
  | ptr (k off:Nat)
  | slc (k off len:Nat) (sz:Nat:=1)
  | mp (k:Nat)
  | fn (fi:Fn) (gi:Nat→List Value) (k:Nat)
  | hang (g:Nat→Value) (h:∀ b,(g b).oneCell'=true) (k:Nat)
inductive SV where
  | one (c:CV)
  | agg (l:List CV)
inductive LV where
  | sv (s:SV)
  | tup (l:List SV)
structure Rsc where
  holds:Nat×Nat→(Nat→Option Obj)→Prop
inductive Row where
  | bool (b:Bool)
  | res (R:Rsc)
instance:Coe Bool Row:=⟨Row.bool⟩
structure Box where
  elem:TypeId
  cells:List CV
  row:Row:=.bool false
def Box.blk (b:Box):Bool:=match b.row with | .bool _=>true | .res _=>false
def look {α:Type} (k:Nat):List (Nat×α)→Option α
  | []=>none
  | (k',a)::r=>cond (Nat.beq k' k) (some a) (look k r)
structure St where
  slots:List (Nat×LV)
  boxes:List (Nat×Option Box)
  X:Nat→Option Obj
def St.slot (σ:St) (d:Nat):Option LV:=look d σ.slots
def St.stat (σ:St) (k:Nat):Option (Option Box):=look k σ.boxes
def CV.rel (S:Nat→Option (Option Box)) (ι:Nat→Nat×Nat):CV→Value→Prop
  | .val u,v=>v=u
  | .junk,_=>True
  | .ptr k off,v=>match S k with
    | none=>False
    | some none=>∃ b,v = .pointer (some ⟨b,off,none⟩)
    | some (some _)=>v = .pointer (some ⟨(ι k).1,off,none⟩)
  | .slc k off n sz,v=>match S k with
    | none=>False
    | some none=>∃ b c,v = .slice (some ⟨b,off,none⟩) n c∧n≤c
    | some (some _)=>∃ c,v = .slice (some ⟨(ι k).1,off,none⟩) n c∧n≤c∧off+c*sz≤(ι k).2
  | .mp k,v=>match S k with
    | none=>False
    | some none=>∃ b,v = .map (some b)
    | some (some _)=>v = .map (some (ι k).1)
  | .fn fi gi k,v=>match S k with
    | none=>False
    | some none=>∃ b,v = .func fi #[] (gi b).toArray
    | some (some _)=>v = .func fi #[] (gi (ι k).1).toArray
  | .hang g _ k,v=>match S k with
    | none=>False
    | some none=>∃ b,v=g b
    | some (some _)=>v=g (ι k).1
def CVs.rel (S:Nat→Option (Option Box)) (ι:Nat→Nat×Nat):List CV→List Value→Prop
  | [],[]=>True
  | c::cs,v::vs=>c.rel S ι v∧CVs.rel S ι cs vs
  | _,_=>False
def SV.rel (S:Nat→Option (Option Box)) (ι:Nat→Nat×Nat):SV→Value→Prop
  | .one c,v=>c.rel S ι v
  | .agg l,v=>∃ arr:Array Value,v = .agg arr∧CVs.rel S ι l arr.toList
def SVs.rel (S:Nat→Option (Option Box)) (ι:Nat→Nat×Nat):List SV→List Value→Prop
  | [],[]=>True
  | c::cs,v::vs=>c.rel S ι v∧SVs.rel S ι cs vs
  | _,_=>False
def LV.rel (S:Nat→Option (Option Box)) (ι:Nat→Nat×Nat):LV→Value→Prop
  | .sv s,v=>s.rel S ι v
  | .tup l,v=>∃ arr:Array Value,v = .tuple arr∧SVs.rel S ι l arr.toList
def Box.rel (S:Nat→Option (Option Box)) (ι:Nat→Nat×Nat) (b:Box) (arr:List Value):Prop:=
  match b.row with
  | .bool false=>CVs.rel S ι b.cells arr
  | .bool true=>∃ vs sp,arr=vs++sp∧CVs.rel S ι b.cells vs
  | .res _=>False
section mono
variable {S S':Nat→Option (Option Box)} {ι ι':Nat→Nat×Nat}
def Later (S S':Nat→Option (Option Box)) (ι ι':Nat→Nat×Nat):Prop:=
  ∀ k,S k≠none→S' k≠none∧∀ b',S' k=some (some b')→ι' k=ι k∧∃ b,S k=some (some b)
theorem CV.rel_later (h:Later S S' ι ι') {c:CV} {v:Value} (hr:c.rel S ι v):c.rel S' ι' v:=by
  cases c with
  | val u=>exact hr
  | junk=>trivial
  | ptr k off =>
    simp only [CV.rel] at hr ⊢
    cases hk:S k with
    | none=>simp [hk] at hr
    | some x =>
      obtain ⟨h1,h2⟩:=h k (by simp [hk])
      cases hk':S' k with
      | none=>exact absurd hk' h1
      | some x' =>
        cases x' with
        | none =>
          cases x with
          | none=>simpa [hk] using hr
          | some _=>rw [hk] at hr;exact ⟨_,hr⟩
        | some b' =>
          obtain ⟨e,b,hb⟩:=h2 b' hk'
          rw [hb] at hr
          simp only at hr ⊢
          rw [e]
          exact hr
  | slc k off n sz =>
    simp only [CV.rel] at hr ⊢
    cases hk:S k with
    | none=>simp [hk] at hr
    | some x =>
      obtain ⟨h1,h2⟩:=h k (by simp [hk])
      cases hk':S' k with
      | none=>exact absurd hk' h1
      | some x' =>
        cases x' with
        | none =>
          cases x with
          | none=>simpa [hk] using hr
          | some _=>rw [hk] at hr;obtain ⟨c,h3,h4,_⟩:=hr;exact ⟨_,c,h3,h4⟩
        | some b' =>
          obtain ⟨e,b,hb⟩:=h2 b' hk'
          rw [hb] at hr
          simp only at hr ⊢
          rw [e]
          exact hr
  | mp k =>
    simp only [CV.rel] at hr ⊢
    cases hk:S k with
    | none=>simp [hk] at hr
    | some x =>
      obtain ⟨h1,h2⟩:=h k (by simp [hk])
      cases hk':S' k with
      | none=>exact absurd hk' h1
      | some x' =>
        cases x' with
        | none =>
          cases x with
          | none=>simpa [hk] using hr
          | some _=>rw [hk] at hr;exact ⟨_,hr⟩
        | some b' =>
          obtain ⟨e,b,hb⟩:=h2 b' hk'
          rw [hb] at hr
          simp only at hr ⊢
          rw [e]
          exact hr
  | fn fi gi k =>
    simp only [CV.rel] at hr ⊢
    cases hk:S k with
    | none=>simp [hk] at hr
    | some x =>
      obtain ⟨h1,h2⟩:=h k (by simp [hk])
      cases hk':S' k with
      | none=>exact absurd hk' h1
      | some x' =>
        cases x' with
        | none =>
          cases x with
          | none=>simpa [hk] using hr
          | some _=>rw [hk] at hr;exact ⟨_,hr⟩
        | some b' =>
          obtain ⟨e,b,hb⟩:=h2 b' hk'
          rw [hb] at hr
          simp only at hr ⊢
          rw [e]
          exact hr
  | hang g hg k =>
    simp only [CV.rel] at hr ⊢
    cases hk:S k with
    | none=>simp [hk] at hr
    | some x =>
      obtain ⟨h1,h2⟩:=h k (by simp [hk])
      cases hk':S' k with
      | none=>exact absurd hk' h1
      | some x' =>
        cases x' with
        | none =>
          cases x with
          | none=>simpa [hk] using hr
          | some _=>rw [hk] at hr;exact ⟨_,hr⟩
        | some b' =>
          obtain ⟨e,b,hb⟩:=h2 b' hk'
          rw [hb] at hr
          simp only at hr ⊢
          rw [e]
          exact hr
theorem CVs.rel_later (h:Later S S' ι ι'):∀ {l:List CV} {vs:List Value},CVs.rel S ι l vs→CVs.rel S' ι' l vs
  | [],[],_=>trivial
  | _::_,_::_,hr=>⟨CV.rel_later h hr.1,CVs.rel_later h hr.2⟩
  | [],_::_,hr=>hr.elim
  | _::_,[],hr=>hr.elim
theorem SV.rel_later (h:Later S S' ι ι') {s:SV} {v:Value} (hr:s.rel S ι v):s.rel S' ι' v:=by
  cases s with
  | one c=>exact CV.rel_later h hr
  | agg l=>obtain ⟨arr,e,hl⟩:=hr;exact ⟨arr,e,CVs.rel_later h hl⟩
theorem SVs.rel_later (h:Later S S' ι ι'):∀ {l:List SV} {vs:List Value},SVs.rel S ι l vs→SVs.rel S' ι' l vs
  | [],[],_=>trivial
  | _::_,_::_,hr=>⟨SV.rel_later h hr.1,SVs.rel_later h hr.2⟩
  | [],_::_,hr=>hr.elim
  | _::_,[],hr=>hr.elim
theorem LV.rel_later (h:Later S S' ι ι') {s:LV} {v:Value} (hr:s.rel S ι v):s.rel S' ι' v:=by
  cases s with
  | sv s=>exact SV.rel_later h hr
  | tup l=>obtain ⟨arr,e,hl⟩:=hr;exact ⟨arr,e,SVs.rel_later h hl⟩
theorem Box.rel_later (h:Later S S' ι ι') {b:Box} {vs:List Value} (hr:b.rel S ι vs):b.rel S' ι' vs:=by
  unfold Box.rel at hr ⊢
  cases hb:b.row with
  | bool r =>
    cases r with
    | false=>rw [hb] at hr;exact CVs.rel_later h hr
    | true=>rw [hb] at hr;obtain ⟨us,sp,e,hl⟩:=hr;exact ⟨us,sp,e,CVs.rel_later h hl⟩
  | res R=>rw [hb] at hr;exact hr.elim
theorem CVs.rel_length:∀ {l:List CV} {vs:List Value},CVs.rel S ι l vs→l.length=vs.length
  | [],[],_=>rfl
  | _::_,_::_,hr=>by simp [CVs.rel_length hr.2]
  | [],_::_,hr=>hr.elim
  | _::_,[],hr=>hr.elim
theorem CVs.rel_append {l l':List CV} {vs vs':List Value} (h:CVs.rel S ι l vs) (h':CVs.rel S ι l' vs'):CVs.rel S ι (l++l') (vs++vs'):=by
  induction l generalizing vs with
  | nil=>cases vs with
    | nil=>exact h'
    | cons=>exact h.elim
  | cons c l ih=>cases vs with
    | nil=>exact h.elim
    | cons v vs=>exact ⟨h.1,ih h.2⟩
theorem CVs.rel_drop {l:List CV} {vs:List Value} (h:CVs.rel S ι l vs) (n:Nat):CVs.rel S ι (l.drop n) (vs.drop n):=by
  induction n generalizing l vs with
  | zero=>exact h
  | succ n ih =>
    cases l with
    | nil=>cases vs with
      | nil=>trivial
      | cons=>exact h.elim
    | cons c l=>cases vs with
      | nil=>exact h.elim
      | cons v vs=>exact ih h.2
theorem CVs.rel_take {l:List CV} {vs:List Value} (h:CVs.rel S ι l vs) (n:Nat):CVs.rel S ι (l.take n) (vs.take n):=by
  induction n generalizing l vs with
  | zero=>trivial
  | succ n ih =>
    cases l with
    | nil=>cases vs with
      | nil=>trivial
      | cons=>exact h.elim
    | cons c l=>cases vs with
      | nil=>exact h.elim
      | cons v vs=>exact ⟨h.1,ih h.2⟩
theorem CVs.rel_get {l:List CV} {vs:List Value} (h:CVs.rel S ι l vs) {n:Nat} {c:CV} (hc:l[n]? = some c):∃ v,vs[n]? = some v∧c.rel S ι v:=by
  induction n generalizing l vs with
  | zero =>
    cases l with
    | nil=>simp at hc
    | cons c' l=>cases vs with
      | nil=>exact h.elim
      | cons v vs=>simp at hc;subst hc;exact ⟨v,rfl,h.1⟩
  | succ n ih =>
    cases l with
    | nil=>simp at hc
    | cons c' l=>cases vs with
      | nil=>exact h.elim
      | cons v vs=>simp at hc;simpa using ih h.2 hc
theorem SVs.rel_get {l:List SV} {vs:List Value} (h:SVs.rel S ι l vs) {n:Nat} {c:SV} (hc:l[n]? = some c):∃ v,vs[n]? = some v∧c.rel S ι v:=by
  induction n generalizing l vs with
  | zero =>
    cases l with
    | nil=>simp at hc
    | cons c' l=>cases vs with
      | nil=>exact h.elim
      | cons v vs=>simp at hc;subst hc;exact ⟨v,rfl,h.1⟩
  | succ n ih =>
    cases l with
    | nil=>simp at hc
    | cons c' l=>cases vs with
      | nil=>exact h.elim
      | cons v vs=>simp at hc;simpa using ih h.2 hc
theorem CVs.rel_map_val (l:List Value):CVs.rel S ι (l.map .val) l:=by
  induction l with
  | nil=>trivial
  | cons v l ih=>exact ⟨rfl,ih⟩
end mono
structure Ctx where
  w0:World
  own:Nat→Prop
  ι0:Nat→Nat×Nat:=fun _=>(0,0)
def Thaw (fr:Nat×Nat) (m:Nat):Prop := ∀ i,i<m→(decide (fr.1≤i)&&decide (i<fr.2))=false
theorem Thaw.zero (m:Nat):Thaw (0,0) m:=fun i _=>by simp
def Loose:Obj→Prop
  | .cells arr _ fr=>Thaw fr arr.size
  | .map _ _=>True
  | _=>False
def isRes (S:Nat→Option (Option Box)) (k:Nat):Prop := ∃ e cs R,S k=some (some ⟨e,cs,.res R⟩)
structure ResAt (own:Nat→Prop) (ι:Nat→Nat×Nat) (F:Nat→Nat→Option Obj) (S:Nat→Option (Option Box)) (X:Nat→Option Obj) (w:World):Prop where
  holds:∀ k e cs R,S k=some (some ⟨e,cs,.res R⟩)→R.holds (ι k) (F k)∧F k (ι k).1≠none
  mem:∀ k b o,F k b=some o→isRes S k∧w.heap[b]? = some o∧Loose o∧own b∧X b=none∧∀ j bj,S j=some (some bj)→(ι j).1=b→j=k
  apart:∀ k k' b,F k b≠none→F k' b≠none→k=k'
theorem Box.res_of {b:Box} (h:b.blk=false):∃ e cs R,b=⟨e,cs,.res R⟩:=by
  obtain ⟨e,cs,r⟩:=b
  cases r with
  | bool r=>cases h
  | res R=>exact ⟨e,cs,R,rfl⟩
open Classical in
theorem ResAt.move {own own':Nat→Prop} {ι ι':Nat→Nat×Nat} {F:Nat→Nat→Option Obj} {S S':Nat→Option (Option Box)} {X X':Nat→Option Obj} {w w':World} (h:ResAt own ι F S X w) (g:Nat→Nat)
    (hres:∀ k e cs R,S' k=some (some ⟨e,cs,.res R⟩)→(∃ e0 cs0,S (g k)=some (some ⟨e0,cs0,.res R⟩))∧ι' k=ι (g k))
    (hg:∀ k k',isRes S' k→isRes S' k'→g k=g k'→k=k')
    (hw:∀ b o,own b→X b=none→(∀ j bj,S j=some (some bj)→bj.blk=true→(ι j).1≠b)→w.heap[b]? = some o→w'.heap[b]? = some o)
    (hown:∀ b,b<w.heap.size→own b→own' b)
    (hX:∀ b,own b→X b=none→(∀ j bj,S j=some (some bj)→bj.blk=true→(ι j).1≠b)→b<w.heap.size→X' b=none)
    (hroots:∀ j bj,S' j=some (some bj)→(∃ j0 bj0,S j0=some (some bj0)∧(ι' j).1=(ι j0).1∧∀ k,isRes S' k→g k=j0→j=k)∨w.heap.size≤(ι' j).1∨X (ι' j).1≠none):
    ResAt own' ι' (fun k=>if isRes S' k then F (g k) else fun _=>none) S' X' w':=by
  have far:∀ k b o,F k b=some o→∀ j bj,S j=some (some bj)→bj.blk=true→(ι j).1≠b:=fun k b o ho j bj hj hb e=>by
    obtain ⟨⟨e0,cs,R,hk⟩,_,_,_,_,h6⟩:=h.mem k b o ho
    have:=h6 j bj hj e
    subst this
    rw [hk] at hj
    simp only [Option.some.injEq] at hj
    subst hj
    cases hb
  constructor
  · intro k e cs R hk
    obtain ⟨⟨e0,cs0,h1⟩,h2⟩:=hres k e cs R hk
    rw [if_pos ⟨e,cs,R,hk⟩,h2]
    exact h.holds _ _ _ _ h1
  · intro k b o ho
    by_cases hk:isRes S' k
    · rw [if_pos hk] at ho
      obtain ⟨h1,h2,h3,h4,h5,h6⟩:=h.mem _ _ _ ho
      have hf:=far _ _ _ ho
      have hlt:b<w.heap.size:=(Array.getElem?_eq_some_iff.1 h2).1
      refine ⟨hk,hw b o h4 h5 hf h2,h3,hown b hlt h4,hX b h4 h5 hf hlt,fun j bj hj e => ?_⟩
      rcases hroots j bj hj with ⟨j0,bj0,h7,h8,h9⟩|h7|h7
      · exact h9 k hk (h6 j0 bj0 h7 (by rw [← h8,e])).symm
      · omega
      · rw [e] at h7;exact absurd h5 h7
    · rw [if_neg hk] at ho;cases ho
  · intro k k' b h1 h2
    by_cases hk:isRes S' k
    · by_cases hk':isRes S' k'
      · rw [if_pos hk] at h1
        rw [if_pos hk'] at h2
        exact hg k k' hk hk' (h.apart _ _ b h1 h2)
      · rw [if_neg hk'] at h2;exact absurd rfl h2
    · rw [if_neg hk] at h1;exact absurd rfl h1
theorem ResAt.keep {own own':Nat→Prop} {ι ι':Nat→Nat×Nat} {F:Nat→Nat→Option Obj} {S S':Nat→Option (Option Box)} {X X':Nat→Option Obj} {w w':World} (h:ResAt own ι F S X w)
    (hres:∀ k e cs R,S' k=some (some ⟨e,cs,.res R⟩)→S k=some (some ⟨e,cs,.res R⟩)∧ι' k=ι k)
    (hw:∀ b o,own b→X b=none→(∀ j bj,S j=some (some bj)→bj.blk=true→(ι j).1≠b)→w.heap[b]? = some o→w'.heap[b]? = some o)
    (hown:∀ b,b<w.heap.size→own b→own' b)
    (hX:∀ b,own b→X b=none→(∀ j bj,S j=some (some bj)→bj.blk=true→(ι j).1≠b)→b<w.heap.size→X' b=none)
    (hroots:∀ j bj,S' j=some (some bj)→(∃ bj0,S j=some (some bj0)∧(ι' j).1=(ι j).1)∨(∃ j0 bj0,S j0=some (some bj0)∧bj0.blk=true∧(ι' j).1=(ι j0).1)∨w.heap.size≤(ι' j).1∨X (ι' j).1≠none):
    ∃ F',ResAt own' ι' F' S' X' w':=
  ⟨_,h.move (fun k=>k) (fun k e cs R hk=>⟨⟨e,cs,(hres k e cs R hk).1⟩,(hres k e cs R hk).2⟩) (fun _ _ _ _ e=>e) hw hown hX (fun j bj hj=>by
    rcases hroots j bj hj with ⟨bj0,h1,h2⟩|⟨j0,bj0,h1,h2,h3⟩|h1|h1
    · exact .inl ⟨j,bj0,h1,h2,fun k _ e=>e.symm⟩
    · refine .inl ⟨j0,bj0,h1,h3,fun k ⟨e,cs,R,hk⟩ e2 => ?_⟩
      have e2:k=j0:=e2
      subst e2
      have:=(hres k e cs R hk).1
      rw [h1] at this
      simp only [Option.some.injEq] at this
      subst this
      cases h2
    · exact .inr (.inl h1)
    · exact .inr (.inr h1))⟩
structure Rel (n:Nat) (C:Ctx) (ι:Nat→Nat×Nat) (σ:St) (a:Act) (w:World):Prop where
  defers:a.defers=[]
  size:a.tmps.size=n
  slots:∀ d lv,σ.slot d=some lv→∃ v,a.tmps[d]? = some v∧lv.rel σ.stat ι v
  boxes:∀ k b,σ.stat k=some (some b)→b.blk=true→∃ arr fr,w.heap[(ι k).1]? = some (.cells arr b.elem fr)∧Thaw fr arr.size∧arr.size=(ι k).2∧b.rel σ.stat ι arr.toList
  own:∀ k b,σ.stat k=some (some b)→(C.own (ι k).1∨C.w0.heap.size≤(ι k).1)∧σ.X (ι k).1=none
  inj:∀ k k' b b',σ.stat k=some (some b)→σ.stat k'=some (some b')→(ι k).1=(ι k').1→k=k'
  keep:∀ k b,σ.stat k=some (some b)→1000000≤k→ι k=C.ι0 k
  ext:∀ b o,σ.X b=some o→w.heap[b]? = some o
  res:∃ F,ResAt (fun b=>C.own b∨C.w0.heap.size≤b) ι F σ.stat σ.X w
  frame:∀ b,b<C.w0.heap.size→¬ C.own b→w.heap[b]? = C.w0.heap[b]?
  big:C.w0.heap.size≤w.heap.size
  os:w.os=C.w0.os
  tape:w.tape=C.w0.tape
  output:w.output=C.w0.output
def St.fresh (σ:St) (k:Nat):Bool:=Nat.blt k 1000000&&(σ.stat k).isNone
theorem St.fresh_none {σ:St} {k:Nat} (h:σ.fresh k=true):σ.stat k=none:=by
  simp only [St.fresh,Bool.and_eq_true,Option.isNone_iff_eq_none] at h
  exact h.2
theorem St.fresh_lt {σ:St} {k:Nat} (h:σ.fresh k=true):k<1000000:=by
  simp only [St.fresh,Bool.and_eq_true] at h
  exact (Nat.blt_eq▸h.1:k<1000000)
structure Same (σ σ':St):Prop where
  slot:∀ d,σ.slot d=σ'.slot d
  stat:∀ k,σ.stat k=σ'.stat k
  X:σ.X=σ'.X
theorem Same.refl (σ:St):Same σ σ:=⟨fun _=>rfl,fun _=>rfl,rfl⟩
theorem Same.symm {σ σ':St} (h:Same σ σ'):Same σ' σ:=⟨fun d=>(h.slot d).symm,fun d=>(h.stat d).symm,h.X.symm⟩
theorem Same.trans {σ σ' σ'':St} (h:Same σ σ') (h':Same σ' σ''):Same σ σ'':=⟨fun d=>(h.slot d).trans (h'.slot d),fun d=>(h.stat d).trans (h'.stat d),h.X.trans h'.X⟩
theorem Rel.same {n:Nat} {C:Ctx} {ι:Nat→Nat×Nat} {σ σ':St} {a:Act} {w:World} (h:Rel n C ι σ a w) (hs:Same σ σ'):Rel n C ι σ' a w:=by
  have e:σ.stat=σ'.stat:=funext hs.stat
  exact {
    defers:=h.defers,size:=h.size
    slots:=fun d lv hd=>by rw [← e];exact h.slots d lv ((hs.slot d).trans hd)
    boxes:=fun k b hb hk=>by rw [← e] at hb ⊢;exact h.boxes k b hb hk
    res:=by rw [← e,← hs.X];exact h.res
    own:=fun k b hb=>by rw [← e] at hb;rw [← hs.X];exact h.own k b hb
    inj:=fun k k' b b' hb hb'=>by rw [← e] at hb hb';exact h.inj k k' b b' hb hb'
    keep:=fun k b hb=>by rw [← e] at hb;exact h.keep k b hb
    ext:=by rw [← hs.X];exact h.ext
    frame:=h.frame,big:=h.big,os:=h.os,tape:=h.tape,output:=h.output }
structure Eff where
  slots:List (Nat×LV)
  foot:List Nat
  boxes:List (Nat×Option Box)
def Eff.app (e:Eff) (σ:St):St:=⟨e.slots++σ.slots,e.boxes++σ.boxes,σ.X⟩
def toLV:Value→LV
  | .agg arr=>.sv (.agg (arr.toList.map .val))
  | .tuple arr=>.tup (arr.toList.map fun v=>match v with | .agg cs=>.agg (cs.toList.map .val)|v=>.one (.val v))
  | v=>.sv (.one (.val v))
def St.ev (σ:St):Operand→Option LV
  | .tmp t=>σ.slot t
  | .const v=>some (toLV v)
  | .global g=>some (.sv (.one (.val (.pointer (some ⟨g,0,none⟩)))))
  | .func f=>some (.sv (.one (.val (.func (.func f) #[] #[]))))
theorem toLV_rel (S:Nat→Option (Option Box)) (ι:Nat→Nat×Nat) (v:Value):(toLV v).rel S ι v:=by
  cases v<;>simp only [toLV,LV.rel,SV.rel,CV.rel]
  case agg arr=>exact ⟨arr,rfl,CVs.rel_map_val _⟩
  case tuple arr =>
    refine ⟨arr,rfl,?_⟩
    generalize arr.toList=l
    induction l with
    | nil=>trivial
    | cons v l ih =>
      refine ⟨?_,ih⟩
      cases v<;>simp only [SV.rel,CV.rel]
      exact ⟨_,rfl,CVs.rel_map_val _⟩
theorem Rel.ev {n:Nat} {C:Ctx} {ι:Nat→Nat×Nat} {σ:St} {a:Act} {w:World} (h:Rel n C ι σ a w) {x:Operand} {lv:LV} (hx:σ.ev x=some lv):lv.rel σ.stat ι (a.eval x):=by
  cases x with
  | tmp t =>
    obtain ⟨v,hv,hr⟩:=h.slots t lv hx
    simpa [Act.eval,hv] using hr
  | const v=>simp only [St.ev,Option.some.injEq] at hx;subst hx;exact toLV_rel _ _ _
  | global g=>simp only [St.ev,Option.some.injEq] at hx;subst hx;rfl
  | func f=>simp only [St.ev,Option.some.injEq] at hx;subst hx;rfl
def looks (ops:List Oper) (o:Oper):List Nat:=
  (o.op.operands.toList.filterMap fun | .tmp t=>some t|_=>none) ++
  (match o.guard with
   | some (g,_)=>((ops[g]?).bind (·.dst)).toList
   | none=>[])
structure Agree (ops:List Oper) (o:Oper) (e:Eff) (σ σ':St):Prop where
  slot:∀ d,d∈looks ops o→σ'.slot d=σ.slot d
  stat:∀ k,k∈e.foot∨k∈e.boxes.map (·.1)→σ'.stat k=σ.stat k
  X:σ'.X=σ.X
def OpOK (P:Program) (n:Nat) (o:Oper) (σ:St) (e:Eff):Prop:=
  ∀ (C:Ctx) (ι:Nat→Nat×Nat) (a:Act) (w:World),Rel n C ι σ a w→(∀ d,o.dst=some d→d<n) →
    ∀ (next:Act→World→Prop) (Q:Exit→Act→World→Prop),(∀ ι' a' w',Rel n C ι' (e.app σ) a' w'→next a' w')→o.wp P a w next Q
inductive Step (P:Program) (n:Nat) (ops:List Oper) (o:Oper) (σ:St) (e:Eff):Prop
  | plain (hg:o.guard=none) (h:∀ σ',Agree ops o e σ σ'→OpOK P n o σ' e)
  | taken (j t:Nat) (b:Bool) (hg:o.guard=some (j,b)) (ht:(ops[j]?).bind (·.dst)=some t) (hb:σ.slot t=some (.sv (.one (.val (.bool b))))) (h:∀ σ',Agree ops o e σ σ'→OpOK P n o σ' e)
  | skipped (j t:Nat) (b:Bool) (v:Value) (hg:o.guard=some (j,b)) (ht:(ops[j]?).bind (·.dst)=some t) (hb:σ.slot t=some (.sv (.one (.val v)))) (hne:v ≠ .bool b)
      (he:e=⟨(o.dst.map fun d=>(d,LV.sv (.one (.val undef)))).toList,[],[]⟩)
theorem Step.agree {P:Program} {n:Nat} {ops:List Oper} {o:Oper} {σ σ':St} {e:Eff} (h:Step P n ops o σ e) (ha:Agree ops o e σ σ'):Step P n ops o σ' e:=by
  have tr:∀ σ'',Agree ops o e σ' σ''→Agree ops o e σ σ'':=fun σ'' hb =>
    ⟨fun d hd=>(hb.slot d hd).trans (ha.slot d hd),fun k hk=>(hb.stat k hk).trans (ha.stat k hk),hb.X.trans ha.X⟩
  cases h with
  | plain hg h=>exact .plain hg fun σ'' hb=>h σ'' (tr σ'' hb)
  | taken j t b hg ht hb h =>
    refine .taken j t b hg ht ?_ fun σ'' hb=>h σ'' (tr σ'' hb)
    rw [ha.slot t (by simp [looks,hg,ht])];exact hb
  | skipped j t b v hg ht hb hne he =>
    refine .skipped j t b v hg ht ?_ hne he
    rw [ha.slot t (by simp [looks,hg,ht])];exact hb
theorem Rel.put {n:Nat} {C:Ctx} {ι:Nat→Nat×Nat} {σ:St} {a:Act} {w:World} (h:Rel n C ι σ a w) {d:Nat} (hd:d<n) {lv:LV} {v:Value} (hr:lv.rel σ.stat ι v):
    Rel n C ι ⟨(d,lv)::σ.slots,σ.boxes,σ.X⟩ (a.put (some d) v) w:=by
  refine { h with defers:=h.defers,size:=by simp [Act.put,h.size],slots := ?_ }
  intro d' lv' hd'
  have hsz:=h.size
  simp only [St.slot,look] at hd'
  by_cases e:d=d'
  · subst e
    simp at hd'
    subst hd'
    refine ⟨v,?_,hr⟩
    simp [Act.put,hsz,hd]
  · have:Nat.beq d d'=false:=by
      cases h:Nat.beq d d' with
      | false=>rfl
      | true=>exact absurd (Nat.eq_of_beq_eq_true h) e
    rw [this] at hd'
    obtain ⟨v',hv',hr'⟩:=h.slots d' lv' hd'
    refine ⟨v',?_,hr'⟩
    simpa [Act.put,Array.getElem?_setIfInBounds,e] using hv'
end Go.Lg
end
section
namespace Go.Lg
open Go
def edgeOn (e:Edge):Bool:=Region.binds .any e
def maskOf (o:Oper) (acc:List Nat):Nat:=
  o.after.toList.foldl (fun s e=>if edgeOn e then s ||| 1 <<< e.on ||| acc.getD e.on 0 else s) 0
def masks:List Oper→List Nat→List Nat
  | [],acc=>acc
  | o::os,acc=>masks os (acc++[maskOf o acc])
def hits (xs ys:List Nat):Bool:=xs.any fun x=>ys.any fun y=>Nat.beq x y
def clash (lx:List Nat) (ex:Eff) (ly:List Nat) (ey:Eff):Bool:=
  let sx:=ex.slots.map (·.1)
  let sy:=ey.slots.map (·.1)
  let bx:=ex.boxes.map (·.1)
  let by_:=ey.boxes.map (·.1)
  hits sx ly||hits sx sy||hits sy lx||hits bx by_||hits bx ey.foot||hits by_ ex.foot
def clashes (lx:List Nat) (ex:Eff) (i:Nat):List (List Nat×Eff×Nat)→Bool
  | []=>true
  | (ly,ey,m)::r=>(!clash lx ex ly ey||m.testBit i)&&clashes lx ex i r
def pairs:Nat→List (List Nat×Eff×Nat)→Bool
  | _,[]=>true
  | i,(lx,ex,_)::r=>clashes lx ex i r&&pairs (i+1) r
def edgesBack:Nat→List Oper→Bool
  | _,[]=>true
  | i,o::os=>o.after.toList.all (fun e => !edgeOn e||Nat.blt e.on i)&&edgesBack (i+1) os
def zip3:List (List Nat)→List Eff→List Nat→List (List Nat×Eff×Nat)
  | a::aa,b::bs,c::cs=>(a,b,c)::zip3 aa bs cs
  | _,_,_=>[]
def check (ops:List Oper) (es:List Eff):Bool:=
  edgesBack 0 ops&&pairs 0 (zip3 (ops.map (looks ops)) es (masks ops []))
inductive Run (P:Program) (n:Nat) (ops:List Oper):List Oper→St→List Eff→St→Prop
  | nil (σ:St):Run P n ops [] σ [] σ
  | cons {o:Oper} {os:List Oper} {σ σ':St} {e:Eff} {es:List Eff} (h:Step P n ops o σ e) (r:Run P n ops os (e.app σ) es σ'):Run P n ops (o::os) σ (e::es) σ'
theorem Run.length {P:Program} {n:Nat} {ops os:List Oper} {σ σ':St} {es:List Eff} (h:Run P n ops os σ es σ'):os.length=es.length:=by
  induction h with
  | nil=>rfl
  | cons _ _ ih=>simp [ih]
def upto (D:Nat→Bool):Nat→List Eff→St→St
  | _,[],σ=>σ
  | i,e::es,σ=>upto D (i+1) es (bif D i then e.app σ else σ)
theorem Run.step {P:Program} {n:Nat} {ops:List Oper}:∀ {os:List Oper} {σ σ':St} {es:List Eff},Run P n ops os σ es σ'→∀ (s i:Nat) (o:Oper),os[i]? = some o →
    ∃ e,es[i]? = some e∧Step P n ops o (upto (fun j=>decide (j<s+i)) s es σ) e:=by
  intro os σ σ' es h
  have none_:∀ (es:List Eff) (s i:Nat) (σ:St),i≤s→upto (fun j=>decide (j<i)) s es σ=σ:=by
    intro es
    induction es with
    | nil=>intro s i σ _;rfl
    | cons e es ih =>
      intro s i σ hi
      have:decide (s<i)=false:=by simp;omega
      simp only [upto,this,cond_false]
      exact ih (s+1) i σ (by omega)
  induction h with
  | nil=>intro s i o ho;simp at ho
  | @cons o' os σ σ' e es hstep r ih =>
    intro s i o ho
    cases i with
    | zero =>
      simp at ho
      subst ho
      refine ⟨e,rfl,?_⟩
      have:upto (fun j=>decide (j<s+0)) s (e::es) σ=σ:=none_ (e::es) s (s+0) σ (by omega)
      rw [this]
      exact hstep
    | succ i =>
      simp at ho
      obtain ⟨e',he',hs'⟩:=ih (s+1) i o ho
      refine ⟨e',by simpa using he',?_⟩
      have h1:decide (s<s+(i+1))=true:=by simp
      simp only [upto,h1,cond_true]
      have:s+1+i=s+(i+1):=by omega
      rw [this] at hs'
      exact hs'
theorem Run.final {P:Program} {n:Nat} {ops os:List Oper} {σ σ':St} {es:List Eff} (h:Run P n ops os σ es σ'):∀ (s:Nat) (D:Nat→Bool),(∀ j,s≤j→j<s+es.length→D j=true)→upto D s es σ=σ':=by
  induction h with
  | nil=>intro s D _;rfl
  | cons _ _ ih =>
    intro s D hD
    have:D s=true:=hD s (Nat.le_refl _) (by simp)
    simp only [upto,this,cond_true]
    exact ih (s+1) D fun j h1 h2=>hD j (by omega) (by simp;omega)
structure Off (e:Eff) (T K:Nat→Prop):Prop where
  slot:∀ t,T t→t ∉ e.slots.map (·.1)
  box:∀ k,K k→k ∉ e.boxes.map (·.1)
structure On (T K:Nat→Prop) (σ σ':St):Prop where
  slot:∀ t,T t→σ.slot t=σ'.slot t
  stat:∀ k,K k→σ.stat k=σ'.stat k
  X:σ.X=σ'.X
theorem On.refl (T K:Nat→Prop) (σ:St):On T K σ σ:=⟨fun _ _=>rfl,fun _ _=>rfl,rfl⟩
theorem look_append {α:Type} (k:Nat) (l l':List (Nat×α)):look k (l++l')=(look k l).or (look k l'):=by
  induction l with
  | nil=>simp [look]
  | cons x l ih =>
    obtain ⟨k',a⟩:=x
    simp only [List.cons_append,look]
    cases Nat.beq k' k<;>simp [ih]
theorem look_none {α:Type} {k:Nat} {l:List (Nat×α)} (h:k ∉ l.map (·.1)):look k l=none:=by
  induction l with
  | nil=>rfl
  | cons x l ih =>
    obtain ⟨k',a⟩:=x
    simp only [List.map_cons,List.mem_cons,not_or] at h
    have:Nat.beq k' k=false:=by
      cases hb:Nat.beq k' k with
      | false=>rfl
      | true=>exact absurd (Nat.eq_of_beq_eq_true hb).symm h.1
    simp [look,this,ih h.2]
theorem Eff.slot_app (e:Eff) (σ:St) (t:Nat):(e.app σ).slot t=(look t e.slots).or (σ.slot t):=look_append _ _ _
theorem Eff.stat_app (e:Eff) (σ:St) (t:Nat):(e.app σ).stat t=(look t e.boxes).or (σ.stat t):=look_append _ _ _
theorem On.app {T K:Nat→Prop} {σ σ':St} (h:On T K σ σ') (e:Eff):On T K (e.app σ) (e.app σ'):=
  ⟨fun t ht=>by rw [Eff.slot_app,Eff.slot_app,h.slot t ht],fun k hk=>by rw [Eff.stat_app,Eff.stat_app,h.stat k hk],h.X⟩
theorem On.left {T K:Nat→Prop} {σ σ':St} (h:On T K σ σ') {e:Eff} (he:Off e T K):On T K (e.app σ) σ':=
  ⟨fun t ht=>by rw [Eff.slot_app,look_none (he.slot t ht)];simpa using h.slot t ht,fun k hk=>by rw [Eff.stat_app,look_none (he.box k hk)];simpa using h.stat k hk,h.X⟩
theorem On.symm {T K:Nat→Prop} {σ σ':St} (h:On T K σ σ'):On T K σ' σ:=⟨fun t ht=>(h.slot t ht).symm,fun k hk=>(h.stat k hk).symm,h.X.symm⟩
theorem upto_on {T K:Nat→Prop} {D D':Nat→Bool}:∀ (es:List Eff) (s:Nat) (σ σ':St),On T K σ σ'→(∀ i e,es[i]? = some e→D (s+i)≠D' (s+i)→Off e T K)→On T K (upto D s es σ) (upto D' s es σ')
  | [],_,_,_,h,_=>h
  | e::es,s,σ,σ',h,hd=>by
    simp only [upto]
    refine upto_on es (s+1) _ _ ?_ fun i e' he' hne=>hd (i+1) e' (by simpa using he') (by simpa [Nat.add_assoc,Nat.add_comm 1 i] using hne)
    have h0:=hd 0 e rfl
    simp only [Nat.add_zero] at h0
    cases h1:D s<;>cases h2:D' s<;>simp only [cond_true,cond_false]
    · exact h
    · exact (h.symm.left (h0 (by simp [h1,h2]))).symm
    · exact h.left (h0 (by simp [h1,h2]))
    · exact h.app e
def apartE (e e':Eff):Prop:=Off e (· ∈ e'.slots.map (·.1)) (· ∈ e'.boxes.map (·.1))
theorem app_swap {e e':Eff} (h:apartE e e') (σ:St):Same (e.app (e'.app σ)) (e'.app (e.app σ)):=by
  refine ⟨fun t => ?_,fun k => ?_,rfl⟩
  · simp only [Eff.slot_app]
    by_cases ht:t∈e'.slots.map (·.1)
    · rw [look_none (h.slot t ht)];simp
    · rw [look_none ht];simp
  · simp only [Eff.stat_app]
    by_cases ht:k∈e'.boxes.map (·.1)
    · rw [look_none (h.box k ht)];simp
    · rw [look_none ht];simp
theorem Same.on {σ σ':St} (h:Same σ σ') (T K:Nat→Prop):On T K σ σ':=⟨fun t _=>h.slot t,fun t _=>h.stat t,h.X⟩
theorem On.same {σ σ':St} (h:On (fun _=>True) (fun _=>True) σ σ'):Same σ σ':=⟨fun t=>h.slot t trivial,fun t=>h.stat t trivial,h.X⟩
theorem upto_same (D:Nat→Bool) (s:Nat) (es:List Eff) {σ σ':St} (h:Same σ σ'):Same (upto D s es σ) (upto D s es σ'):=
  (upto_on es s σ σ' (h.on _ _) fun _ _ _ hne=>absurd rfl hne).same
theorem upto_late {D:Nat→Bool} {e:Eff}:∀ (es:List Eff) (s:Nat) (σ:St),(∀ i e',es[i]? = some e'→D (s+i)=true→apartE e e')→Same (upto D s es (e.app σ)) (e.app (upto D s es σ))
  | [],_,σ,_=>Same.refl _
  | e'::es,s,σ,h=>by
    simp only [upto]
    have hrest:=fun i e'' (he:es[i]? = some e'') (hD:D (s+1+i)=true)=>h (i+1) e'' (by simpa using he) (by simpa [Nat.add_assoc,Nat.add_comm 1 i] using hD)
    cases hs:D s
    · simp only [cond_false]
      exact upto_late es (s+1) σ hrest
    · simp only [cond_true]
      have h0:=h 0 e' rfl (by simpa using hs)
      refine (upto_same D (s+1) es (app_swap h0 σ).symm).trans ?_
      exact upto_late es (s+1) (e'.app σ) hrest
theorem upto_insert {D D':Nat→Bool} {i:Nat} {e:Eff}:∀ (es:List Eff) (s:Nat) (σ:St) (j:Nat),i=s+j→es[j]? = some e→D i=false→D' i=true→(∀ k,k≠i→D' k=D k) →
    (∀ k e',es[k]? = some e'→j<k→D (s+k)=true→apartE e e')→Same (upto D' s es σ) (e.app (upto D s es σ))
  | [],_,_,j,_,he,_,_,_,_=>by simp at he
  | e'::es,s,σ,0,hi,he,h0,h1,hne,hap=>by
    simp at he hi
    subst he;subst hi
    have e1:upto D' i (e'::es) σ=upto D' (i+1) es (e'.app σ):=by simp [upto,h1]
    have e2:upto D i (e'::es) σ=upto D (i+1) es σ:=by simp [upto,h0]
    rw [e1,e2]
    have e3:Same (upto D' (i+1) es (e'.app σ)) (upto D (i+1) es (e'.app σ)):=
      (upto_on es (i+1) _ _ (On.refl _ _ _) fun k _ _ hk=>absurd (hne (i+1+k) (by omega)) hk).same
    refine e3.trans (upto_late es (i+1) σ fun k e'' hk hD=>hap (k+1) e'' (by simpa using hk) (by omega) (by simpa [Nat.add_assoc,Nat.add_comm 1 k] using hD))
  | e'::es,s,σ,j+1,hi,he,h0,h1,hne,hap=>by
    have hs:D' s=D s:=hne s (by omega)
    simp only [upto,hs]
    exact upto_insert es (s+1) _ j (by omega) (by simpa using he) h0 h1 hne fun k e'' hk hlt hD=>hap (k+1) e'' (by simpa using hk) (by omega) (by simpa [Nat.add_assoc,Nat.add_comm 1 k] using hD)
end Go.Lg
end
section
namespace Go.Lg
open Go
def Closed (ops:List Oper) (D:Nat→Bool):Prop := ∀ j o,ops[j]? = some o→D j=true→∀ e∈o.after.toList,edgeOn e=true→D e.on=true
theorem testBit_shift_one (k i:Nat) (h:(1 <<< k).testBit i=true):i=k:=by
  rw [Nat.shiftLeft_eq,Nat.one_mul,Nat.testBit_two_pow] at h
  exact (of_decide_eq_true h).symm
theorem maskOf_bits {o:Oper} {acc:List Nat} {D:Nat→Bool} (hacc:∀ j i,(acc.getD j 0).testBit i=true→D j=true→D i=true)
    (he:∀ e∈o.after.toList,edgeOn e=true→D e.on=true) (i:Nat) (h:(maskOf o acc).testBit i=true):D i=true:=by
  unfold maskOf at h
  have key:∀ (l:List Edge) (s:Nat),(∀ e∈l,edgeOn e=true→D e.on=true)→(∀ i,s.testBit i=true→D i=true) →
      (l.foldl (fun s e=>if edgeOn e then s ||| 1 <<< e.on ||| acc.getD e.on 0 else s) s).testBit i=true→D i=true:=by
    intro l
    induction l with
    | nil=>intro s _ hs h;exact hs i h
    | cons e l ih =>
      intro s hl hs h
      refine ih _ (fun e' he'=>hl e' (List.mem_cons_of_mem _ he')) ?_ h
      intro k hk
      dsimp only at hk
      by_cases hon:edgeOn e=true
      · rw [if_pos hon,Nat.testBit_or,Nat.testBit_or] at hk
        have hd:=hl e (by simp) hon
        simp only [Bool.or_eq_true] at hk
        rcases hk with (hk|hk)|hk
        · exact hs k hk
        · rw [testBit_shift_one _ _ hk];exact hd
        · exact hacc _ _ hk hd
      · rw [if_neg hon] at hk
        exact hs k hk
  exact key _ 0 he (by simp) h
theorem masks_spec {ops:List Oper} {D:Nat→Bool} (hc:Closed ops D):∀ (os:List Oper) (acc:List Nat),(∀ k,os[k]? = ops[acc.length+k]?) →
    (∀ j i,(acc.getD j 0).testBit i=true→D j=true→D i=true) →
    (∀ j,j<acc.length→(masks os acc).getD j 0=acc.getD j 0) ∧
    (∀ j i,((masks os acc).getD j 0).testBit i=true→D j=true→D i=true) ∧
    (∀ k o,os[k]? = some o→(∀ e∈o.after.toList,edgeOn e=true→D e.on=true)→∀ i,((masks os acc).getD (acc.length+k) 0).testBit i=true→D i=true)
  | [],acc,_,hacc=>⟨fun _ _=>rfl,hacc,fun k o h=>by simp at h⟩
  | o::os,acc,hos,hacc=>by
    have hlen:(acc++[maskOf o acc]).length=acc.length+1:=by simp
    have hget:∀ j,(acc++[maskOf o acc]).getD j 0=if j<acc.length then acc.getD j 0 else if j=acc.length then maskOf o acc else 0:=by
      intro j
      simp only [List.getD_eq_getElem?_getD,List.getElem?_append]
      by_cases h:j<acc.length
      · simp [h]
      · simp only [h,if_false]
        by_cases h':j=acc.length
        · subst h';simp
        · have:∃ m,j-acc.length=m+1:=⟨j-acc.length-1,by omega⟩
          obtain ⟨m,hm⟩:=this
          simp [hm,h']
    have h0:ops[acc.length]? = some o:=by simpa using (hos 0).symm
    have hacc':∀ j i,((acc++[maskOf o acc]).getD j 0).testBit i=true→D j=true→D i=true:=by
      intro j i hb hd
      rw [hget] at hb
      by_cases h:j<acc.length
      · rw [if_pos h] at hb;exact hacc j i hb hd
      · rw [if_neg h] at hb
        by_cases h':j=acc.length
        · rw [if_pos h'] at hb
          subst h'
          exact maskOf_bits hacc (hc _ o h0 hd) i hb
        · rw [if_neg h'] at hb
          simp at hb
    obtain ⟨h1,h2,h3⟩:=masks_spec hc os (acc++[maskOf o acc]) (fun k=>by
      have:=hos (k+1)
      rw [hlen]
      simpa [Nat.add_assoc,Nat.add_comm 1 k] using this) hacc'
    refine ⟨fun j hj => ?_,h2,fun k o' ho' he i hi => ?_⟩
    · show (masks os (acc++[maskOf o acc])).getD j 0=_
      rw [h1 j (by rw [hlen];omega),hget,if_pos hj]
    · cases k with
      | zero =>
        simp at ho'
        subst ho'
        rw [Nat.add_zero] at hi
        have hi':((masks os (acc++[maskOf o acc])).getD acc.length 0).testBit i=true:=hi
        rw [h1 acc.length (by rw [hlen];omega),hget,if_neg (by omega),if_pos rfl] at hi'
        exact maskOf_bits hacc he i hi'
      | succ k =>
        refine h3 k o' (by simpa using ho') he i ?_
        rw [hlen]
        have:acc.length+1+k=acc.length+(k+1):=by omega
        rw [this]
        exact hi
theorem hits_false {xs ys:List Nat} (h:hits xs ys=false) {x:Nat} (hx:x∈xs):x ∉ ys:=by
  intro hy
  simp only [hits,List.any_eq_false] at h
  have:=h x hx
  simp only [Bool.not_eq_true,List.any_eq_false] at this
  exact absurd (this x hy) (by simp [Nat.beq_refl])
theorem clashes_spec {lx:List Nat} {ex:Eff} {i:Nat}:∀ {l:List (List Nat×Eff×Nat)},clashes lx ex i l=true→∀ (k:Nat) (ly:List Nat) (ey:Eff) (m:Nat),l[k]? = some (ly,ey,m)→clash lx ex ly ey=false∨m.testBit i=true
  | [],_,k,_,_,_,hk=>by simp at hk
  | (ly',ey',m')::r,h,k,ly,ey,m,hk=>by
    simp only [clashes,Bool.and_eq_true,Bool.or_eq_true,Bool.not_eq_true'] at h
    cases k with
    | zero=>simp at hk;obtain ⟨rfl,rfl,rfl⟩:=hk;exact h.1
    | succ k=>exact clashes_spec h.2 k ly ey m (by simpa using hk)
theorem pairs_spec:∀ {l:List (List Nat×Eff×Nat)} {s:Nat},pairs s l=true→∀ (i j:Nat) (x y:List Nat×Eff×Nat),i<j→l[i]? = some x→l[j]? = some y→clash x.1 x.2.1 y.1 y.2.1=false∨y.2.2.testBit (s+i)=true
  | [],_,_,i,_,_,_,_,hi,_=>by simp at hi
  | (lx,ex,m)::r,s,h,i,j,x,y,hij,hi,hj=>by
    simp only [pairs,Bool.and_eq_true] at h
    cases i with
    | zero =>
      obtain ⟨j,rfl⟩:∃ j',j=j'+1:=⟨j-1,by omega⟩
      simp at hi
      subst hi
      obtain ⟨ly,ey,m'⟩:=y
      exact clashes_spec h.1 j ly ey m' (by simpa using hj)
    | succ i =>
      obtain ⟨j,rfl⟩:∃ j',j=j'+1:=⟨j-1,by omega⟩
      have:=pairs_spec h.2 i j x y (by omega) (by simpa using hi) (by simpa using hj)
      rw [show s+1+i=s+(i+1) by omega] at this
      exact this
theorem zip3_get:∀ {aa:List (List Nat)} {bs:List Eff} {cs:List Nat} {i:Nat} {a:List Nat} {b:Eff} {c:Nat},aa[i]? = some a→bs[i]? = some b→cs[i]? = some c→(zip3 aa bs cs)[i]? = some (a,b,c)
  | [],_,_,i,_,_,_,h,_,_=>by simp at h
  | _::_,[],_,i,_,_,_,_,h,_=>by simp at h
  | _::_,_::_,[],i,_,_,_,_,_,h=>by simp at h
  | a::aa,b::bs,c::cs,0,a',b',c',h,h',h''=>by simp at h h' h'';subst h h' h'';rfl
  | a::aa,b::bs,c::cs,i+1,a',b',c',h,h',h''=>by
    simp only [zip3,List.getElem?_cons_succ]
    exact zip3_get (by simpa using h) (by simpa using h') (by simpa using h'')
theorem masks_length:∀ (os:List Oper) (acc:List Nat),(masks os acc).length=acc.length+os.length
  | [],acc=>by simp [masks]
  | o::os,acc=>by rw [masks,masks_length os];simp;omega
theorem edgesBack_spec:∀ {os:List Oper} {s:Nat},edgesBack s os=true→∀ (i:Nat) (o:Oper),os[i]? = some o→∀ e∈o.after.toList,edgeOn e=true→e.on<s+i
  | [],_,_,i,_,h=>by simp at h
  | o'::os,s,h,i,o,hi=>by
    simp only [edgesBack,Bool.and_eq_true,List.all_eq_true,Bool.or_eq_true,Bool.not_eq_true'] at h
    cases i with
    | zero =>
      simp at hi
      subst hi
      intro e he hon
      rcases h.1 e he with h'|h'
      · rw [hon] at h';simp at h'
      · simpa [Nat.blt_eq] using h'
    | succ i =>
      intro e he hon
      have:=edgesBack_spec h.2 i o (by simpa using hi) e he hon
      omega
structure NoClash (lx:List Nat) (ex:Eff) (ly:List Nat) (ey:Eff):Prop where
  a:∀ t∈ex.slots.map (·.1),t ∉ ly
  b:∀ t∈ex.slots.map (·.1),t ∉ ey.slots.map (·.1)
  c:∀ t∈ey.slots.map (·.1),t ∉ lx
  d:∀ t∈ex.boxes.map (·.1),t ∉ ey.boxes.map (·.1)
  e:∀ t∈ex.boxes.map (·.1),t ∉ ey.foot
  f:∀ t∈ey.boxes.map (·.1),t ∉ ex.foot
theorem noClash {lx:List Nat} {ex:Eff} {ly:List Nat} {ey:Eff} (h:clash lx ex ly ey=false):NoClash lx ex ly ey:=by
  simp only [clash,Bool.or_eq_false_iff] at h
  obtain ⟨⟨⟨⟨⟨h1,h2⟩,h3⟩,h4⟩,h5⟩,h6⟩:=h
  exact ⟨fun t ht=>hits_false h1 ht,fun t ht=>hits_false h2 ht,fun t ht=>hits_false h3 ht,fun t ht=>hits_false h4 ht,fun t ht=>hits_false h5 ht,fun t ht=>hits_false h6 ht⟩
def dstsOK (n:Nat) (ops:List Oper):Bool:=ops.all fun o=>match o.dst with|some d=>Nat.blt d n|none=>true
theorem dstsOK_spec {n:Nat} {ops:List Oper} (h:dstsOK n ops=true) {o:Oper} (ho:o∈ops):∀ d,o.dst=some d→d<n:=by
  intro d hd
  have:=List.all_eq_true.1 h o ho
  rw [hd] at this
  simpa [Nat.blt_eq] using this
theorem Step.wp {P:Program} {n:Nat} {ops:List Oper} {o:Oper} {σ:St} {e:Eff} (h:Step P n ops o σ e) {C:Ctx} {ι:Nat→Nat×Nat} {a:Act} {w:World} (hr:Rel n C ι σ a w)
    (hd:∀ d,o.dst=some d→d<n) {next:Act→World→Prop} {Q:Exit→Act→World→Prop} (hn:∀ ι' a' w',Rel n C ι' (e.app σ) a' w'→next a' w'):
    if Region.wanted o (yielded ops.toArray a.tmps) then o.wp P a w next Q∨(o.asks P a w∧LetsOut Q) else next (a.put o.dst undef) w:=by
  have yl:∀ (j t:Nat) (b:Bool),(ops[j]?).bind (·.dst)=some t→σ.slot t=some (.sv (.one (.val (.bool b))))→yielded ops.toArray a.tmps j=some b:=by
    intro j t b ht hb
    obtain ⟨v,hv,hvr⟩:=hr.slots t _ hb
    simp only [LV.rel,SV.rel,CV.rel] at hvr
    subst hvr
    have:(ops.toArray[j]?).bind (·.dst)=some t:=by simpa using ht
    simp only [yielded,this,Option.bind_some,hv]
  cases h with
  | plain hg h =>
    rw [if_pos (by simp [Region.wanted,hg])]
    exact .inl (h σ ⟨fun _ _=>rfl,fun _ _=>rfl,rfl⟩ C ι a w hr hd next Q hn)
  | taken j t b hg ht hb h =>
    rw [if_pos (by simp [Region.wanted,hg,yl j t b ht hb])]
    exact .inl (h σ ⟨fun _ _=>rfl,fun _ _=>rfl,rfl⟩ C ι a w hr hd next Q hn)
  | skipped j t b v hg ht hb hne he =>
    have ny:yielded ops.toArray a.tmps j≠some b:=by
      obtain ⟨v',hv,hvr⟩:=hr.slots t _ hb
      simp only [LV.rel,SV.rel,CV.rel] at hvr
      subst hvr
      have:(ops.toArray[j]?).bind (·.dst)=some t:=by simpa using ht
      simp only [yielded,this,Option.bind_some,hv]
      split
      · rename_i b' hb'
        intro he
        injection hb' with hb'
        injection he with he
        exact hne (by rw [hb',he])
      · intro he;cases he
    rw [if_neg (by simp [Region.wanted,hg,ny])]
    subst he
    cases hdst:o.dst with
    | none =>
      refine hn ι _ w ?_
      rw [hdst]
      exact hr
    | some d =>
      refine hn ι _ w ?_
      rw [hdst]
      exact hr.put (hd d hdst) (by simp [LV.rel,SV.rel,CV.rel])
theorem run_any {P:Program} {n:Nat} {ops:List Oper} {σ σ':St} {es:List Eff} (hrun:Run P n ops ops σ es σ') (hchk:check ops es=true) (hdst:dstsOK n ops=true)
    {C:Ctx} {Q:Exit→Act→World→Prop} (hQ:∀ ι a w,Rel n C ι σ' a w→Q .normal a w):
    ∀ (fuel:Nat) (listed:Array Bool) (ι:Nat→Nat×Nat) (a:Act) (w:World),listed.size=ops.length→Closed ops (fun j=>listed.getD j false) →
      (List.range ops.length).countP (fun j => !listed.getD j false)≤fuel →
      Rel n C ι (upto (fun j=>listed.getD j false) 0 es σ) a w→wpAny P .any ops.toArray Q fuel listed a w:=by
  simp only [check,Bool.and_eq_true] at hchk
  obtain ⟨hback,hpairs⟩:=hchk
  have hlen:ops.length=es.length:=hrun.length
  have hready:∀ (listed:Array Bool) (i:Nat),listed.size=ops.length→(i∈Region.ready .any ops.toArray listed↔∃ o,ops[i]? = some o∧listed.getD i false=false∧∀ e∈o.after.toList,edgeOn e=true→listed.getD e.on false=true):=by
    intro listed i hsz
    simp only [Region.ready,List.mem_filter,List.mem_range,Bool.and_eq_true,Bool.not_eq_true']
    constructor
    · rintro ⟨hi,h1,h2⟩
      have hi':i<ops.length:=by simpa using hi
      refine ⟨ops[i],by simp [hi'],?_,?_⟩
      · have:i<listed.size:=by omega
        simpa [Array.getD,this] using h1
      · intro e he hon
        simp only [List.getElem?_toArray,List.getElem?_eq_getElem hi',Option.map_some,Option.getD_some] at h2
        rw [← Array.all_toList,List.all_eq_true] at h2
        have:=h2 e he
        simp only [Bool.or_eq_true,Bool.not_eq_true'] at this
        rcases this with this|this
        · unfold edgeOn at hon;rw [hon] at this;simp at this
        · exact this
    · rintro ⟨o,ho,h1,h2⟩
      have hi:i<ops.length:=(List.getElem?_eq_some_iff.1 ho).1
      refine ⟨by simpa using hi,?_,?_⟩
      · have:i<listed.size:=by omega
        simpa [Array.getD,this] using h1
      · simp only [List.getElem?_toArray,ho,Option.map_some,Option.getD_some]
        rw [← Array.all_toList,List.all_eq_true]
        intro e he
        simp only [Bool.or_eq_true,Bool.not_eq_true']
        by_cases hon:edgeOn e=true
        · exact .inr (h2 e he hon)
        · left;unfold edgeOn at hon;simpa using hon
  have hdone:∀ (listed:Array Bool),listed.size=ops.length→Region.ready .any ops.toArray listed=[]→∀ j,j<ops.length→listed.getD j false=true:=by
    intro listed hsz hnil j
    induction j using Nat.strongRecOn with
    | _ j ih =>
      intro hj
      cases hl:listed.getD j false with
      | true=>rfl
      | false =>
        have:j∈Region.ready .any ops.toArray listed:=(hready listed j hsz).2 ⟨ops[j],by simp [hj],hl,fun e he hon=>ih e.on (by
          have:=edgesBack_spec hback j ops[j] (by simp [hj]) e he hon
          omega) (by
          have:=edgesBack_spec hback j ops[j] (by simp [hj]) e he hon
          omega)⟩
        rw [hnil] at this
        simp at this
  have hfin:∀ (listed:Array Bool) (ι:Nat→Nat×Nat) (a:Act) (w:World),listed.size=ops.length→Region.ready .any ops.toArray listed=[]→Rel n C ι (upto (fun j=>listed.getD j false) 0 es σ) a w→Q .normal a w:=by
    intro listed ι a w hsz hnil hr
    have e:=hrun.final 0 (fun j=>listed.getD j false) (fun j _ hj=>hdone listed hsz hnil j (by omega))
    rw [e] at hr
    exact hQ ι a w hr
  intro fuel
  induction fuel with
  | zero =>
    intro listed ι a w hsz hcl hcnt hr
    have hall:∀ j,j<ops.length→listed.getD j false=true:=by
      intro j hj
      have h0:(List.range ops.length).countP (fun j => !listed.getD j false)=0:=by omega
      rw [List.countP_eq_zero] at h0
      simpa using h0 j (by simpa using hj)
    have hnil:Region.ready .any ops.toArray listed=[]:=by
      apply List.eq_nil_iff_forall_not_mem.2
      intro i hi
      obtain ⟨o,ho,h1,_⟩:=(hready listed i hsz).1 hi
      have:=hall i (List.getElem?_eq_some_iff.1 ho).1
      rw [this] at h1
      simp at h1
    exact ⟨hnil,hfin listed ι a w hsz hnil hr⟩
  | succ fuel ih =>
    intro listed ι a w hsz hcl hcnt hr
    refine ⟨fun hnil=>hfin listed ι a w hsz hnil hr,fun i hi => ?_⟩
    obtain ⟨o,ho,hun,hedges⟩:=(hready listed i hsz).1 hi
    have hilt:i<ops.length:=(List.getElem?_eq_some_iff.1 ho).1
    obtain ⟨e,he,hstep⟩:=hrun.step 0 i o ho
    simp only [Nat.zero_add] at hstep
    obtain ⟨_,hm2,hm3⟩:=masks_spec hcl ops [] (fun k=>by simp) (by simp)
    have hml:(masks ops []).length=ops.length:=by simp [masks_length]
    have hent:∀ j o' e',ops[j]? = some o'→es[j]? = some e'→(zip3 (ops.map (looks ops)) es (masks ops []))[j]? = some (looks ops o',e',(masks ops []).getD j 0):=by
      intro j o' e' ho' he'
      have hj:j<ops.length:=(List.getElem?_eq_some_iff.1 ho').1
      exact zip3_get (by simp [ho']) he' (by rw [List.getD_eq_getElem?_getD,List.getElem?_eq_getElem (by omega)];rfl)
    have hpre:∀ j e',es[j]? = some e'→j<i→listed.getD j false=false→Off e' (· ∈ looks ops o++e.slots.map (·.1)) (fun k=>k∈e.foot∨k∈e.boxes.map (·.1)):=by
      intro j e' he' hji hl
      have hj:j<ops.length:=by omega
      have:=pairs_spec hpairs j i _ _ hji (hent j ops[j] e' (by simp [hj]) he') (hent i o e ho he)
      rcases this with hcl'|hord
      · have nc:=noClash hcl'
        refine ⟨fun t ht hmem => ?_,fun k hk hmem => ?_⟩
        · rcases List.mem_append.1 ht with ht|ht
          · exact nc.a t hmem ht
          · exact nc.b t hmem ht
        · rcases hk with hk|hk
          · exact nc.e k hmem hk
          · exact nc.d k hmem hk
      · simp only [Nat.zero_add] at hord
        have:=hm3 i o ho hedges j (by simpa using hord)
        rw [this] at hl
        simp at hl
    have hpost:∀ j e',es[j]? = some e'→i<j→listed.getD j false=true→NoClash (looks ops o) e (looks ops (ops.getD j default)) e':=by
      intro j e' he' hij hl
      have hj:j<ops.length:=by have:=(List.getElem?_eq_some_iff.1 he').1;omega
      have hoj:ops[j]? = some (ops.getD j default):=by simp [List.getD_eq_getElem?_getD,List.getElem?_eq_getElem hj]
      have:=pairs_spec hpairs i j _ _ hij (hent i o e ho he) (hent j _ e' hoj he')
      rcases this with hcl'|hord
      · exact noClash hcl'
      · simp only [Nat.zero_add] at hord
        have:=hm2 j i (by simpa using hord) hl
        rw [this] at hun
        simp at hun
    have hon:=upto_on (T:=(· ∈ looks ops o++e.slots.map (·.1))) (K:=fun k=>k∈e.foot∨k∈e.boxes.map (·.1)) (D:=fun j=>listed.getD j false) (D':=fun j=>decide (j<i)) es 0 σ σ (On.refl _ _ _) (by
      intro j e' he' hne
      simp only [Nat.zero_add] at hne
      by_cases hji:j<i
      · have hl:listed.getD j false=false:=by
          cases h:listed.getD j false with
          | false=>rfl
          | true=>rw [h] at hne;simp [hji] at hne
        exact hpre j e' he' hji hl
      · have hl:listed.getD j false=true:=by
          cases h:listed.getD j false with
          | true=>rfl
          | false=>rw [h] at hne;simp [hji] at hne
        have hij:i<j:=by
          rcases Nat.lt_or_ge i j with h|h
          · exact h
          · have:i=j:=by omega
            subst this
            rw [hl] at hun
            simp at hun
        have nc:=hpost j e' he' hij hl
        refine ⟨fun t ht hmem => ?_,fun k hk hmem => ?_⟩
        · rcases List.mem_append.1 ht with ht|ht
          · exact nc.c t hmem ht
          · exact nc.b t ht hmem
        · rcases hk with hk|hk
          · exact nc.f k hmem hk
          · exact nc.d k hk hmem)
    have hstep':=hstep.agree (σ':=upto (fun j=>listed.getD j false) 0 es σ)
      ⟨fun d hd=>hon.slot d (by simp [hd]),fun k hk=>hon.stat k hk,hon.X⟩
    have hgo:=hstep'.wp hr (dstsOK_spec hdst (List.mem_of_getElem? ho)) (Q:=Q) (next:=wpAny P .any ops.toArray Q fuel (listed.setIfInBounds i true)) (by
      intro ι' a' w' hr'
      have hget:∀ j,(listed.setIfInBounds i true).getD j false=if j=i then true else listed.getD j false:=by
        intro j
        simp only [Array.getD_eq_getD_getElem?,Array.getElem?_setIfInBounds]
        by_cases h:i=j
        · subst h;simp [show i<listed.size by omega]
        · simp [h,show ¬ j=i from fun e=>h e.symm]
      refine ih _ ι' a' w' (by simpa using hsz) ?_ ?_ ?_
      · intro j o' ho' hd' e' he' hone
        simp only [hget] at hd' ⊢
        by_cases h1:e'.on=i
        · rw [if_pos h1]
        · rw [if_neg h1]
          by_cases h2:j=i
          · subst h2
            rw [ho] at ho'
            simp at ho'
            subst ho'
            exact hedges e' he' hone
          · rw [if_neg h2] at hd'
            exact hcl j o' ho' hd' e' he' hone
      · have hlt:(List.range ops.length).countP (fun j => !(listed.setIfInBounds i true).getD j false)<(List.range ops.length).countP (fun j => !listed.getD j false):=by
          have hmem:i∈List.range ops.length:=by simpa using hilt
          have gen:∀ l:List Nat,i∈l→l.countP (fun j => !(listed.setIfInBounds i true).getD j false)<l.countP (fun j => !listed.getD j false):=by
            have le:∀ l:List Nat,l.countP (fun j => !(listed.setIfInBounds i true).getD j false)≤l.countP (fun j => !listed.getD j false):=by
              intro l
              apply List.countP_mono_left
              intro x _ hx
              rw [hget] at hx
              by_cases h:x=i
              · simp [h] at hx
              · simpa [h] using hx
            intro l
            induction l with
            | nil=>intro h;simp at h
            | cons x l ihl =>
              intro h
              rw [List.countP_cons,List.countP_cons,hget]
              by_cases hx:x=i
              · subst hx
                have:=le l
                simp only [if_true,hun,Bool.not_true,Bool.not_false,Bool.false_eq_true,if_false]
                omega
              · have:=ihl (by simpa [Ne.symm hx] using h)
                simp only [hx,if_false]
                omega
          exact gen _ hmem
        omega
      · refine hr'.same (Same.symm ?_)
        refine upto_insert (i:=i) (D:=fun j=>listed.getD j false) es 0 σ i (by simp) he hun (by simp [hget]) (fun k hk=>by simp [hget,hk]) ?_
        intro k e' hk hik hD
        simp only [Nat.zero_add] at hD
        have nc:=hpost k e' hk hik hD
        exact ⟨fun t ht hmem=>nc.b t hmem ht,fun t ht hmem=>nc.d t hmem ht⟩)
    unfold wpOp
    have:ops.toArray[i]? = some o:=by simpa using ho
    rw [this]
    exact hgo
end Go.Lg
end
section
namespace Go.Lg
open Go Go.RowKit
structure LWP (P:Program) (n:Nat) (C:Ctx) (c:Code) (Q:Exit→St→Prop) (σ:St):Prop where
  out:∀ ι a w,Rel n C ι σ a w→c.wp P (fun e a' w'=>∃ ι' σ',Q e σ'∧Rel n C ι' σ' a' w') a w
def thenQ (K:St→Prop) (Q:Exit→St→Prop):Exit→St→Prop
  | .normal,σ=>K σ
  | e,σ=>Q e σ
def blockQ (id:Nat) (Q:Exit→St→Prop):Exit→St→Prop
  | .exit id',σ=>cond (Nat.beq id' id) (Q .normal σ) (Q (.exit id') σ)
  | e,σ=>Q e σ
structure RunK (P:Program) (n:Nat) (ops:List Oper) (os:List Oper) (σ:St) (acc:List Eff) (K:List Eff→St→Prop):Prop where
  out:∃ es σ',Run P n ops os σ es σ'∧K (acc.reverse++es) σ'
section
variable {P:Program} {n:Nat} {C:Ctx} {Q:Exit→St→Prop} {σ:St}
theorem LWP.mono {c:Code} {Q':Exit→St→Prop} (h:LWP P n C c Q σ) (hq:∀ e σ,Q e σ→Q' e σ):LWP P n C c Q' σ:=
  ⟨fun ι a w hr=>wp_mono (h.out ι a w hr) fun _ _ _ ⟨ι',σ',q,r⟩=>⟨ι',σ',hq _ _ q,r⟩⟩
theorem LWP.seq {x y:Code} (h:LWP P n C x (thenQ (LWP P n C y Q) Q) σ):LWP P n C (.seq x y) Q σ:=by
  refine ⟨fun ι a w hr => ?_⟩
  refine wp_seq (wp_mono (h.out ι a w hr) ?_)
  rintro e a' w' ⟨ι',σ',hq,hr'⟩
  cases e<;>first
    | exact hq.out ι' a' w' hr'
    | exact ⟨ι',σ',hq,hr'⟩
theorem LWP.skip (h:Q .normal σ):LWP P n C .skip Q σ:=⟨fun ι _ _ hr=>wp_skip ⟨ι,σ,h,hr⟩⟩
theorem LWP.exit {id:Nat} (h:Q (.exit id) σ):LWP P n C (.exit id) Q σ:=⟨fun ι _ _ hr=>wp_exit ⟨ι,σ,h,hr⟩⟩
theorem LWP.ret (h:Q .ret σ):LWP P n C .ret Q σ:=⟨fun ι _ _ hr=>wp_ret ⟨ι,σ,h,hr⟩⟩
theorem LWP.block {id:Nat} {c:Code} (h:LWP P n C c (blockQ id Q) σ):LWP P n C (.block id c) Q σ:=by
  refine ⟨fun ι a w hr => ?_⟩
  refine wp_block (wp_mono (h.out ι a w hr) ?_)
  rintro e a' w' ⟨ι',σ',hq,hr'⟩
  cases e<;>try exact ⟨ι',σ',hq,hr'⟩
  rename_i id'
  simp only [blockQ] at hq
  by_cases he:id'=id
  · subst he
    simp only [Exit.inBlock,if_pos]
    refine ⟨ι',σ',?_,hr'⟩
    simpa [Nat.beq_refl] using hq
  · have:Nat.beq id' id=false:=by
      cases hb:Nat.beq id' id with
      | false=>rfl
      | true=>exact absurd (Nat.eq_of_beq_eq_true hb) he
    rw [this] at hq
    simp only [Exit.inBlock,if_neg he]
    exact ⟨ι',σ',hq,hr'⟩
theorem LWP.cond {c:Operand} {x y:Code} {b:Bool} (hc:σ.ev c=some (.sv (.one (.val (.bool b))))) (ht:b=true→LWP P n C x Q σ) (hf:b=false→LWP P n C y Q σ):
    LWP P n C (.cond c x y) Q σ:=by
  refine ⟨fun ι a w hr => ?_⟩
  have he:a.eval c = .bool b:=hr.ev hc
  exact wp_cond_split he (fun h=>(ht h).out ι a w hr) (fun h=>(hf h).out ι a w hr)
theorem LWP.condT {c:Operand} {x y:Code} (hc:σ.ev c=some (.sv (.one (.val (.bool true))))) (h:LWP P n C x Q σ):LWP P n C (.cond c x y) Q σ:=
  LWP.cond hc (fun _=>h) (fun h=>by simp at h)
theorem LWP.condF {c:Operand} {x y:Code} (hc:σ.ev c=some (.sv (.one (.val (.bool false))))) (h:LWP P n C y Q σ):LWP P n C (.cond c x y) Q σ:=
  LWP.cond hc (fun h=>by simp at h) (fun _=>h)
theorem rounds_mono {P:Program} {c:Code} {Q:Exit→Act→World→Prop}:∀ (m:Nat) (a:Act) (w:World),Code.rounds P c Q m a w→Code.rounds P c Q (m+1) a w
  | 0,_,_,h=>h.elim
  | m+1,a,w,h=>by
    rw [rounds_succ] at h ⊢
    refine wp_mono h fun e a' w' hq => ?_
    cases e<;>first
      | exact rounds_mono m a' w' hq
      | exact hq
theorem rounds_le {P:Program} {c:Code} {Q:Exit→Act→World→Prop} {m m':Nat} {a:Act} {w:World} (hle:m≤m') (h:Code.rounds P c Q m a w):Code.rounds P c Q m' a w:=by
  induction hle with
  | refl=>exact h
  | step _ ih=>exact rounds_mono _ _ _ ih
structure Le (n:Nat) (C:Ctx) (σ σ':St):Prop where
  out:∀ ι a w,Rel n C ι σ a w→∃ ι',Rel n C ι' σ' a w
theorem LWP.loop {c:Code} (I:Nat→St→Prop) (m:Nat) (h0:∃ σ',Le n C σ σ'∧I m σ')
    (round:∀ m σ,I m σ→LWP P n C c (thenQ (fun σ'=>∃ m' σ'',m'<m∧Le n C σ' σ''∧I m' σ'') Q) σ):LWP P n C (.loop c) Q σ:=by
  refine ⟨fun ι a w hr => ?_⟩
  have key:∀ (m:Nat) (σ:St) (ι:Nat→Nat×Nat) (a:Act) (w:World),I m σ→Rel n C ι σ a w→Code.rounds P c (fun e a' w'=>∃ ι' σ',Q e σ'∧Rel n C ι' σ' a' w') (m+1) a w:=by
    intro m
    induction m using Nat.strongRecOn with
    | _ m ih =>
      intro σ ι a w hI hr
      rw [rounds_succ]
      refine wp_mono ((round m σ hI).out ι a w hr) ?_
      rintro e a' w' ⟨ι',σ',hq,hr'⟩
      cases e<;>try exact ⟨ι',σ',hq,hr'⟩
      obtain ⟨m',σ'',hlt,hle,hI'⟩:=hq
      obtain ⟨ι'',hr''⟩:=hle.out ι' a' w' hr'
      exact rounds_le (by omega) (ih m' hlt σ'' ι'' a' w' hI' hr'')
  obtain ⟨σ',hle,hI⟩:=h0
  obtain ⟨ι',hr'⟩:=hle.out ι a w hr
  exact wp_loop_rounds (m+1) (key m σ' ι' a w hI hr')
theorem LWP.le {c:Code} {σ':St} (hle:Le n C σ σ') (h:LWP P n C c Q σ'):LWP P n C c Q σ:=
  ⟨fun ι a w hr=>let ⟨ι',hr'⟩:=hle.out ι a w hr;h.out ι' a w hr'⟩
theorem run_list {ops:List Oper} {σ':St} {os:List Oper} {es:List Eff} (hrun:Run P n ops os σ es σ') (hdst:∀ o∈os,∀ d,o.dst=some d→d<n)
    {Q:Exit→Act→World→Prop} {ι:Nat→Nat×Nat} {a:Act} {w:World} (hr:Rel n C ι σ a w) (hQ:∀ ι a w,Rel n C ι σ' a w→Q .normal a w):wpList P ops.toArray Q os a w:=by
  induction hrun generalizing ι a w with
  | nil σ=>exact hQ ι a w hr
  | @cons o os σ σ' e es hstep _ ih =>
    unfold wpList
    exact hstep.wp hr (hdst o (by simp)) fun ι' a' w' hr'=>ih (fun o' ho'=>hdst o' (by simp [ho'])) hr' hQ
theorem LWP.region {id:Nat} {ops:List Oper} (hdst:dstsOK n ops=true) (h:RunK P n ops ops σ [] fun _ σ'=>Q .normal σ'):LWP P n C (.region id ops.toArray false) Q σ:=by
  refine ⟨fun ι a w hr => ?_⟩
  obtain ⟨es,σ',hrun,hk⟩:=h.out
  exact wp_region_lit (run_list hrun (fun o ho=>dstsOK_spec hdst ho) hr fun ι' a' w' hr'=>⟨ι',σ',hk,hr'⟩)
theorem Rel.drew {ι:Nat→Nat×Nat} {a:Act} {w:World} (h:Rel n C ι σ a w):Rel n C ι σ a w.drew:=
  { h with res:=h.res.elim fun F hF=>⟨F,hF.holds,hF.mem,hF.apart⟩,ext:=h.ext,keep:=h.keep,boxes:=h.boxes,frame:=h.frame,big:=h.big,os:=h.os,tape:=h.tape,output:=h.output }
theorem LWP.draws {id:Nat} {ops:List Oper} (hm:P.follows .mixedOrders=true) (hdst:dstsOK n ops=true)
    (h:RunK P n ops ops σ [] fun es σ'=>check ops es=true∧Q .normal σ'):LWP P n C (.region id ops.toArray true) Q σ:=by
  refine ⟨fun ι a w hr => ?_⟩
  obtain ⟨es,σ',hrun,hchk,hk⟩:=h.out
  refine wp_region_any hm ?_
  have h0:Rel n C ι (upto (fun j=>(Array.replicate ops.toArray.size false).getD j false) 0 es σ) a w.drew:=by
    have:∀ (es:List Eff) (s:Nat) (σ:St),upto (fun j=>(Array.replicate ops.toArray.size false).getD j false) s es σ=σ:=by
      intro es
      induction es with
      | nil=>intro s σ;rfl
      | cons e es ih =>
        intro s σ
        have hf:(Array.replicate ops.toArray.size false).getD s false=false:=by
          rw [Array.getD_eq_getD_getElem?,Array.getElem?_replicate]
          split<;>rfl
        simp only [upto,hf,cond_false]
        exact ih (s+1) σ
    rw [this]
    exact hr.drew
  refine run_any (C:=C) hrun (by simpa using hchk) hdst (fun ι' a' w' hr'=>⟨ι',σ',hk,hr'⟩) ops.toArray.size _ ι a w.drew (by simp) ?_ ?_ h0
  · intro j o _ hd
    dsimp only at hd
    rw [Array.getD_eq_getD_getElem?,Array.getElem?_replicate] at hd
    split at hd<;>simp at hd
  · have:=List.countP_le_length (p:=fun j => !(Array.replicate ops.toArray.size false).getD j false) (l:=List.range ops.length)
    simpa using this
theorem RunK.nil {ops:List Oper} {acc:List Eff} {K:List Eff→St→Prop} (h:K acc.reverse σ):RunK P n ops [] σ acc K:=⟨[],σ,.nil σ,by simpa using h⟩
theorem RunK.step {ops os:List Oper} {o:Oper} {acc:List Eff} {K:List Eff→St→Prop} {e:Eff} (hs:Step P n ops o σ e) (h:RunK P n ops os (e.app σ) (e::acc) K):RunK P n ops (o::os) σ acc K:=by
  obtain ⟨es,σ',hrun,hk⟩:=h.out
  exact ⟨e::es,σ',.cons hs hrun,by simpa using hk⟩
end
structure LOK (P:Program) (n:Nat) (ops:List Oper) (o:Oper) (σ:St) (e:Eff):Prop where
  out:∀ σ',Agree ops o e σ σ'→OpOK P n o σ' e
section
variable {P:Program} {n:Nat} {ops os:List Oper} {acc:List Eff} {K:List Eff→St→Prop}
variable {s:List (Nat×LV)} {bx:List (Nat×Option Box)} {X:Nat→Option Obj}
theorem RunK.passed {d:Nat} {op:Op} {ty:TypeId} {pos:String} {after:Array Edge} {j t:Nat} {b b':Bool}
    (ht:(ops[j]?).bind (·.dst)=some t) (hb:look t s=some (.sv (.one (.val (.bool b'))))) (hne:(b'==b)=false)
    (k:RunK P n ops os ⟨(d,.sv (.one (.val undef)))::s,bx,X⟩ (⟨[(d,.sv (.one (.val undef)))],[],[]⟩::acc) K):
    RunK P n ops (⟨some d,op,ty,pos,after,some (j,b)⟩::os) ⟨s,bx,X⟩ acc K:=
  RunK.step (.skipped j t b (.bool b') rfl ht hb (by intro h;injection h with h;subst h;simp at hne) rfl) k
theorem RunK.passedU {d:Nat} {op:Op} {ty:TypeId} {pos:String} {after:Array Edge} {j t:Nat} {b:Bool}
    (ht:(ops[j]?).bind (·.dst)=some t) (hb:look t s=some (.sv (.one (.val undef))))
    (k:RunK P n ops os ⟨(d,.sv (.one (.val undef)))::s,bx,X⟩ (⟨[(d,.sv (.one (.val undef)))],[],[]⟩::acc) K):
    RunK P n ops (⟨some d,op,ty,pos,after,some (j,b)⟩::os) ⟨s,bx,X⟩ acc K:=
  RunK.step (.skipped j t b undef rfl ht hb (by intro h;cases h) rfl) k
end
def noS:Nat→Option (Option Box):=fun _=>none
def LVs.rel (S:Nat→Option (Option Box)) (ι:Nat→Nat×Nat):List LV→List Value→Prop
  | [],[]=>True
  | c::cs,v::vs=>c.rel S ι v∧LVs.rel S ι cs vs
  | _,_=>False
def Program.enters (P:Program) (f:FuncId):Bool:=
  match P.funcs[f]? with
  | some fn => fn.name != "runtime.NumGoroutine" && fn.body.isSome
  | none=>false
structure PSpec (P:Program) (X:Nat→Option Obj) (f:FuncId) (args:List LV) (r:LV):Prop where
  enters:Program.enters P f=true
  out:∀ (w:World) (vals:Array Value),(∀ b o,X b=some o→w.heap[b]? = some o)→LVs.rel noS (fun _=>(0,0)) args vals.toList →
    Calls P f vals w (fun e w'=>∃ v,e = .returned v∧r.rel noS (fun _=>(0,0)) v∧Below w.heap.size w w')
theorem later_noS (S:Nat→Option (Option Box)) (ι ι':Nat→Nat×Nat):Later noS S ι ι':=fun _ h=>absurd rfl h
def CV.closed:CV→Bool
  | .val _=>true
  | .junk=>true
  | _=>false
def SV.closed:SV→Bool
  | .one c=>c.closed
  | .agg l=>l.all CV.closed
def LV.closed:LV→Bool
  | .sv s=>s.closed
  | .tup l=>l.all SV.closed
theorem CV.rel_closed {S S':Nat→Option (Option Box)} {ι ι':Nat→Nat×Nat} {c:CV} (h:c.closed=true) {v:Value} (hr:c.rel S ι v):c.rel S' ι' v:=by
  cases c<;>first|exact hr|simp [CV.closed] at h
theorem CVs.rel_closed {S S':Nat→Option (Option Box)} {ι ι':Nat→Nat×Nat}:∀ {l:List CV} {vs:List Value},l.all CV.closed=true→CVs.rel S ι l vs→CVs.rel S' ι' l vs
  | [],[],_,_=>trivial
  | c::l,v::vs,h,hr=>by simp only [List.all_cons,Bool.and_eq_true] at h;exact ⟨CV.rel_closed h.1 hr.1,CVs.rel_closed h.2 hr.2⟩
  | [],_::_,_,hr=>hr.elim
  | _::_,[],_,hr=>hr.elim
theorem SV.rel_closed {S S':Nat→Option (Option Box)} {ι ι':Nat→Nat×Nat} {s:SV} (h:s.closed=true) {v:Value} (hr:s.rel S ι v):s.rel S' ι' v:=by
  cases s with
  | one c=>exact CV.rel_closed h hr
  | agg l=>obtain ⟨arr,e,hl⟩:=hr;exact ⟨arr,e,CVs.rel_closed h hl⟩
theorem SVs.rel_closed {S S':Nat→Option (Option Box)} {ι ι':Nat→Nat×Nat}:∀ {l:List SV} {vs:List Value},l.all SV.closed=true→SVs.rel S ι l vs→SVs.rel S' ι' l vs
  | [],[],_,_=>trivial
  | c::l,v::vs,h,hr=>by simp only [List.all_cons,Bool.and_eq_true] at h;exact ⟨SV.rel_closed h.1 hr.1,SVs.rel_closed h.2 hr.2⟩
  | [],_::_,_,hr=>hr.elim
  | _::_,[],_,hr=>hr.elim
theorem LV.rel_closed {S S':Nat→Option (Option Box)} {ι ι':Nat→Nat×Nat} {s:LV} (h:s.closed=true) {v:Value} (hr:s.rel S ι v):s.rel S' ι' v:=by
  cases s with
  | sv s=>exact SV.rel_closed h hr
  | tup l=>obtain ⟨arr,e,hl⟩:=hr;exact ⟨arr,e,SVs.rel_closed h hl⟩
theorem LVs.rel_closed {S S':Nat→Option (Option Box)} {ι ι':Nat→Nat×Nat}:∀ {l:List LV} {vs:List Value},l.all LV.closed=true→LVs.rel S ι l vs→LVs.rel S' ι' l vs
  | [],[],_,_=>trivial
  | c::l,v::vs,h,hr=>by simp only [List.all_cons,Bool.and_eq_true] at h;exact ⟨LV.rel_closed h.1 hr.1,LVs.rel_closed h.2 hr.2⟩
  | [],_::_,_,hr=>hr.elim
  | _::_,[],_,hr=>hr.elim
def enumL {α:Type}:Nat→List α→List (Nat×α)
  | _,[]=>[]
  | i,a::r=>(i,a)::enumL (i+1) r
theorem look_enum {α:Type}:∀ (l:List α) (s d:Nat) (x:α),look d (enumL s l)=some x→s≤d∧l[d-s]? = some x
  | [],_,_,_,h=>by simp [enumL,look] at h
  | a::r,s,d,x,h=>by
    simp only [enumL,look] at h
    cases hb:Nat.beq s d with
    | true =>
      rw [hb] at h
      have:=Nat.eq_of_beq_eq_true hb
      subst this
      simp at h
      subst h
      simp
    | false =>
      rw [hb] at h
      obtain ⟨h1,h2⟩:=look_enum r (s+1) d x h
      refine ⟨by omega,?_⟩
      rw [show d-s=(d-(s+1))+1 by omega]
      simpa using h2
theorem LVs.rel_get {S:Nat→Option (Option Box)} {ι:Nat→Nat×Nat} {l:List LV} {vs:List Value} (h:LVs.rel S ι l vs) {n:Nat} {c:LV} (hc:l[n]? = some c):∃ v,vs[n]? = some v∧c.rel S ι v:=by
  induction n generalizing l vs with
  | zero =>
    cases l with
    | nil=>simp at hc
    | cons c' l=>cases vs with
      | nil=>exact h.elim
      | cons v vs=>simp at hc;subst hc;exact ⟨v,rfl,h.1⟩
  | succ n ih =>
    cases l with
    | nil=>simp at hc
    | cons c' l=>cases vs with
      | nil=>exact h.elim
      | cons v vs=>simp at hc;simpa using ih h.2 hc
theorem LVs.rel_length {S:Nat→Option (Option Box)} {ι:Nat→Nat×Nat}:∀ {l:List LV} {vs:List Value},LVs.rel S ι l vs→l.length=vs.length
  | [],[],_=>rfl
  | _::_,_::_,hr=>by simp [LVs.rel_length hr.2]
  | [],_::_,hr=>hr.elim
  | _::_,[],hr=>hr.elim
def aggSize (P:Program) (t:TypeId):Option Nat:=
  match P.underlying t,P.info? t with
  | some (.struct _),some i=>some i.size
  | some (.array _ _),some i=>some i.size
  | _,_=>none
def oneType (P:Program) (t:TypeId):Bool:=
  match P.underlying t with
  | some (.struct _)=>false
  | some (.array _ _)=>false
  | some _=>true
  | none=>false
def ResV (P:Program) (σ:St):ResultVar→SV→Prop
  | .tmp t,s=>σ.slot t=some (.sv s)
  | .cell a ty,s=>∃ k b,σ.slot a=some (.sv (.one (.ptr k 0)))∧σ.stat k=some (some b)∧b.row = .bool false ∧
    ((aggSize P ty=some b.cells.length∧s = .agg b.cells)∨(oneType P ty=true∧∃ c r,b.cells=c::r∧s = .one c))
def ResL (P:Program) (σ:St):List ResultVar→List SV→Prop
  | [],[]=>True
  | v::vs,s::ss=>ResV P σ v s∧ResL P σ vs ss
  | _,_=>False
def resOf:List SV→LV
  | [s]=>.sv s
  | l=>.tup l
def retQ (P:Program) (fn:Func) (r:LV):Exit→St→Prop
  | .normal,σ=>∃ ss,ResL P σ fn.results.toList ss∧r=resOf ss
  | .ret,σ=>∃ ss,ResL P σ fn.results.toList ss∧r=resOf ss
  | _,_=>False
theorem isAgg_of {P:Program} {t:TypeId} {m:Nat} (h:aggSize P t=some m) (w:World):(isAgg t).run P w = .ok true w∧(sizeOf t).run P w = .ok m w:=by
  unfold aggSize at h
  cases hu:P.underlying t with
  | none=>simp [hu] at h
  | some d =>
    cases hi:P.info? t with
    | none=>cases d<;>simp [hu,hi] at h
    | some i =>
      cases d<;>simp [hu,hi] at h<;>(subst h;exact ⟨by simp [isAgg,run_underlying hu],by simp [sizeOf,typeInfo,hi]⟩)
theorem isAgg_one {P:Program} {t:TypeId} (h:oneType P t=true) (w:World):(isAgg t).run P w = .ok false w:=by
  unfold oneType at h
  cases hu:P.underlying t with
  | none=>simp [hu] at h
  | some d=>cases d<;>simp [hu] at h<;>simp [isAgg,run_underlying hu]
theorem addr_add (b o n:Nat):(⟨b,o,none⟩:Addr).add n=⟨b,o+n,none⟩:=Addr.add_lit b o n
theorem run_load_agg {P:Program} {t:TypeId} {m:Nat} (h:aggSize P t=some m) {w:World} {b off:Nat} {arr:Array Value} {el:TypeId} {fr:Nat×Nat} (hb:w.heap[b]? = some (.cells arr el fr)) (hm:off+m≤arr.size):
    (loadVar t ⟨b,off,none⟩).run P w = .ok (.agg ((arr.toList.drop off).take m).toArray) w:=by
  obtain ⟨h1,h2⟩:=isAgg_of h w
  have hlen:((arr.toList.drop off).take m).length=m:=by simp;omega
  have hl:=run_loadCells_list (P:=P) w ⟨b,off,none⟩ ((arr.toList.drop off).take m) (fun j v hv=>by
    rw [addr_add]
    simp only [World.cell?,hb,Option.isSome_none,Bool.false_eq_true,if_false]
    rw [List.getElem?_take] at hv
    split at hv
    · rw [List.getElem?_drop] at hv
      simpa using hv
    · simp at hv)
  rw [hlen] at hl
  simp [loadVar,h1,h2,hl]
theorem run_load_one {P:Program} {t:TypeId} (h:oneType P t=true) {w:World} {b off:Nat} {arr:Array Value} {el:TypeId} {fr:Nat×Nat} {v:Value} (hb:w.heap[b]? = some (.cells arr el fr)) (hv:arr[off]? = some v):
    (loadVar t ⟨b,off,none⟩).run P w = .ok v w:=by
  have hc:w.cell? ⟨b,off,none⟩=some v:=by simp [World.cell?,hb,hv]
  simp [loadVar,isAgg_one h w,hc]
theorem Box.rel_ends {S:Nat→Option (Option Box)} {ι:Nat→Nat×Nat} {b:Box} {vs:List Value} (h:b.rel S ι vs):∃ us sp,vs=us++sp∧CVs.rel S ι b.cells us∧(b.row = .bool false→sp=[]):=by
  unfold Box.rel at h
  cases hr:b.row with
  | bool r =>
    rw [hr] at h
    cases r with
    | false=>exact ⟨vs,[],by rw [List.append_nil],h,fun _=>rfl⟩
    | true=>obtain ⟨us,sp,e,hl⟩:=h;exact ⟨us,sp,e,hl,fun e=>by cases e⟩
  | res R=>rw [hr] at h;exact h.elim
theorem Box.rel_get {S:Nat→Option (Option Box)} {ι:Nat→Nat×Nat} {b:Box} {vs:List Value} (h:b.rel S ι vs) {i:Nat} {c:CV} (hc:b.cells[i]? = some c):∃ v,vs[i]? = some v∧c.rel S ι v:=by
  obtain ⟨us,sp,e,hl,_⟩:=Box.rel_ends h
  obtain ⟨v,hv,hcr⟩:=CVs.rel_get hl hc
  refine ⟨v,?_,hcr⟩
  rw [e,List.getElem?_append_left (List.getElem?_eq_some_iff.1 hv).1]
  exact hv
theorem Box.rel_part {S:Nat→Option (Option Box)} {ι:Nat→Nat×Nat} {b:Box} {vs:List Value} (h:b.rel S ι vs) {off m:Nat} (hm:off+m≤b.cells.length):off+m≤vs.length∧CVs.rel S ι ((b.cells.drop off).take m) ((vs.drop off).take m):=by
  obtain ⟨us,sp,e,hl,_⟩:=Box.rel_ends h
  have hlen:=CVs.rel_length hl
  refine ⟨by rw [e,List.length_append];omega,?_⟩
  have:((vs.drop off).take m)=((us.drop off).take m):=by
    rw [e,List.drop_append_of_le_length (by omega),List.take_append_of_le_length (by simp;omega)]
  rw [this]
  exact CVs.rel_take (CVs.rel_drop hl off) m
def resM (tmps:Array Value):ResultVar→Sem Value
  | .tmp t=>pure (tmps.getD t undef)
  | .cell x t=>do loadVar t (← asAddr (tmps.getD x undef))
theorem results_eq (fn:Func) (tmps:Array Value):results fn tmps=(do
    let vs ← fn.results.mapM (resM tmps)
    pure (if h:vs.size=1 then vs[0] else .tuple vs)):=rfl
theorem results_run {P:Program} {fn:Func} {n:Nat} {C:Ctx} {ι:Nat→Nat×Nat} {σ:St} {a:Act} {w:World} (hr:Rel n C ι σ a w) {ss:List SV} (h:ResL P σ fn.results.toList ss):
    ∃ v,(results fn a.tmps).run P w = .ok v w∧(resOf ss).rel σ.stat ι v:=by
  have one:∀ (rv:ResultVar) (s:SV),ResV P σ rv s→∃ v,(resM a.tmps rv).run P w = .ok v w∧s.rel σ.stat ι v:=by
    intro rv s h
    cases rv with
    | tmp t =>
      obtain ⟨v,hv,hvr⟩:=hr.slots t _ h
      exact ⟨v,by simp [resM,hv],hvr⟩
    | cell x ty =>
      obtain ⟨k,b,hs,hb,hrow,hcase⟩:=h
      obtain ⟨v,hv,hvr⟩:=hr.slots x _ hs
      simp only [LV.rel,SV.rel,CV.rel,hb] at hvr
      subst hvr
      obtain ⟨arr,fr,harr,-,-,hbr⟩:=hr.boxes k b hb (by unfold Box.blk;rw [hrow])
      have hbr':CVs.rel σ.stat ι b.cells arr.toList:=by unfold Box.rel at hbr;rw [hrow] at hbr;exact hbr
      have hlen:=CVs.rel_length hbr'
      rcases hcase with ⟨hsz,rfl⟩|⟨hone,c,r,hc,rfl⟩
      · refine ⟨.agg arr,?_,arr,rfl,hbr'⟩
        have:=run_load_agg hsz harr (off:=0) (by simp at hlen;omega)
        simp only [List.drop_zero] at this
        rw [List.take_of_length_le (by omega)] at this
        simp [resM,hv,asAddr,this]
      · rw [hc] at hbr'
        cases hal:arr.toList with
        | nil=>rw [hal] at hbr';exact hbr'.elim
        | cons u us =>
          rw [hal] at hbr'
          have hu:arr[0]? = some u:=by rw [← Array.getElem?_toList,hal];rfl
          refine ⟨u,?_,hbr'.1⟩
          have:=run_load_one hone harr hu
          simp [resM,hv,asAddr,this]
  have many:∀ (rvs:List ResultVar) (ss:List SV),ResL P σ rvs ss→∃ vs,(rvs.mapM (resM a.tmps)).run P w = .ok vs w∧SVs.rel σ.stat ι ss vs:=by
    intro rvs
    induction rvs with
    | nil =>
      intro ss h
      cases ss with
      | nil=>exact ⟨[],by simp,trivial⟩
      | cons=>exact h.elim
    | cons rv rvs ih =>
      intro ss h
      cases ss with
      | nil=>exact h.elim
      | cons s ss =>
        obtain ⟨v,hv,hvr⟩:=one rv s h.1
        obtain ⟨vs,hvs,hvsr⟩:=ih ss h.2
        refine ⟨v::vs,?_,hvr,hvsr⟩
        rw [List.mapM_cons]
        simp only [Sem.run_bind]
        rw [hv]
        simp only [Result.andThen_ok]
        rw [hvs]
        simp
  obtain ⟨vs,hvs,hvr⟩:=many _ _ h
  have hrun:(results fn a.tmps).run P w = .ok (if h:vs.toArray.size=1 then vs.toArray[0] else .tuple vs.toArray) w:=by
    rw [results_eq,Array.mapM_eq_mapM_toList]
    simp only [Sem.run_bind,Sem.run_map,hvs,Result.andThen_ok,Sem.run_pure]
  refine ⟨_,hrun,?_⟩
  have hl:ss.length=vs.length:=by
    have:∀ (ss:List SV) (vs:List Value),SVs.rel σ.stat ι ss vs→ss.length=vs.length:=by
      intro ss
      induction ss with
      | nil=>intro vs h;cases vs with
        | nil=>rfl
        | cons=>exact h.elim
      | cons s ss ih=>intro vs h;cases vs with
        | nil=>exact h.elim
        | cons v vs=>simp [ih vs h.2]
    exact this ss vs hvr
  match ss,vs,hvr,hl with
  | [s],[v],hvr,_=>simpa [resOf,LV.rel] using hvr.1
  | [],[],_,_=>exact ⟨#[],rfl,trivial⟩
  | s::s'::ss,v::v'::vs,hvr,_=>exact ⟨(v::v'::vs).toArray,by simp,by simpa [resOf] using hvr⟩
theorem PSpec.intro {P:Program} {X:Nat→Option Obj} {f:FuncId} {fn:Func} {c:Code} {args:List LV} {r:LV} (hf:P.funcs[f]? = some fn) (hb:fn.body=some c) (hent:Program.enters P f=true)
    (hlen:Nat.ble args.length fn.ntmps=true) (hcl:r.closed=true)
    (h:∀ C:Ctx,LWP P fn.ntmps C c (retQ P fn r) ⟨enumL 0 args,[],X⟩):PSpec P X f args r:=by
  replace hlen:=Nat.le_of_ble_eq_true hlen
  refine ⟨hent,fun w vals hX hargs => ?_⟩
  refine calls_of_wp hf hb ?_
  have hvl:=LVs.rel_length hargs
  simp only [Array.length_toList] at hvl
  refine wp_mono ((h ⟨w,fun _=>False,fun _=>(0,0)⟩).out (fun _=>(0,0)) _ w ?_) ?_
  · exact {
      defers:=rfl
      size:=by simp;omega
      slots:=by
        intro d lv hd
        obtain ⟨_,hd'⟩:=look_enum args 0 d lv hd
        simp only [Nat.sub_zero] at hd'
        obtain ⟨v,hv,hvr⟩:=LVs.rel_get hargs hd'
        have hlt:d<vals.size:=by have:=(List.getElem?_eq_some_iff.1 hv).1;simpa using this
        refine ⟨v,?_,LV.rel_later (later_noS _ _ _) hvr⟩
        rw [Array.getElem?_append_left hlt]
        simpa using hv
      boxes:=fun k b hb=>by simp [St.stat,look] at hb
      own:=fun k b hb=>by simp [St.stat,look] at hb
      inj:=fun k k' b b' hb=>by simp [St.stat,look] at hb
      keep:=fun k b hb=>by simp [St.stat,look] at hb
      ext:=hX
      res:=⟨fun _ _=>none,⟨fun k e cs R hk=>by simp [St.stat,look] at hk,(fun k b o ho=>by cases ho),fun k k' b h=>absurd rfl h⟩⟩
      frame:=fun _ _ _=>rfl
      big:=Nat.le_refl _
      os:=rfl,tape:=rfl,output:=rfl }
  · rintro e a' w' ⟨ι',σ',hq,hr⟩
    have fin:(∃ ss,ResL P σ' fn.results.toList ss∧r=resOf ss)→a'.defers=[]∧∃ v,(results fn a'.tmps).run P w' = .ok v w'∧∃ u,Ending.returned v = .returned u∧r.rel noS (fun _=>(0,0)) u∧Below w.heap.size w w':=by
      rintro ⟨ss,hres,rfl⟩
      obtain ⟨v,hv,hvr⟩:=results_run hr hres
      exact ⟨hr.defers,v,hv,v,rfl,LV.rel_closed hcl hvr,⟨hr.os,hr.tape,hr.output,hr.big,fun k hk=>hr.frame k hk (by simp)⟩⟩
    cases e<;>first
      | exact fin hq
      | exact hq.elim
end Go.Lg
end
section
namespace Go.Lg
open Go Go.RowKit
section
variable {P:Program} {n:Nat} {ops:List Oper} {σ:St}
theorem Agree.ev {o:Oper} {e:Eff} {σ σ':St} (h:Agree ops o e σ σ') {x:Operand} (hx:x∈o.op.operands):σ'.ev x=σ.ev x:=by
  cases x with
  | tmp t =>
    refine h.slot t ?_
    unfold looks
    refine List.mem_append.2 (.inl ?_)
    rw [List.mem_filterMap]
    exact ⟨.tmp t,by simpa using hx,rfl⟩
  | _=>rfl
theorem LOK.value {d:Nat} {op:Op} {ty:TypeId} {pos:String} {after:Array Edge} {g:Option (Nat×Bool)} {lv:LV} {ft:List Nat}
    (h:∀ σ',Agree ops ⟨some d,op,ty,pos,after,g⟩ ⟨[(d,lv)],ft,[]⟩ σ σ'→∀ (C:Ctx) (ι:Nat→Nat×Nat) (a:Act) (w:World),Rel n C ι σ' a w →
      ∃ v,(execOp a.eval ⟨some d,op,ty,pos,after,g⟩).run P w = .ok (.value v) w∧lv.rel σ'.stat ι v):
    LOK P n ops ⟨some d,op,ty,pos,after,g⟩ σ ⟨[(d,lv)],ft,[]⟩:=by
  refine ⟨fun σ' ha C ι a w hr hd next Q hn => ?_⟩
  obtain ⟨v,hrun,hv⟩:=h σ' ha C ι a w hr
  unfold Oper.wp
  rw [hrun]
  exact hn ι _ w (hr.put (hd d rfl) hv)
theorem LOK.move {d:Nat} {x:Operand} {ty:TypeId} {pos:String} {after:Array Edge} {g:Option (Nat×Bool)} {lv:LV} (hx:σ.ev x=some lv):
    LOK P n ops ⟨some d,.move x,ty,pos,after,g⟩ σ ⟨[(d,lv)],[],[]⟩:=
  LOK.value fun σ' ha C ι a w hr=>⟨a.eval x,rfl,hr.ev ((ha.ev (by simp [Op.operands])).trans hx)⟩
theorem LOK.assign {d:Nat} {x:Operand} {ty:TypeId} {pos:String} {after:Array Edge} {g:Option (Nat×Bool)} {lv:LV} (hx:σ.ev x=some lv):
    LOK P n ops ⟨some d,.assign x,ty,pos,after,g⟩ σ ⟨[(d,lv)],[],[]⟩:=
  LOK.value fun σ' ha C ι a w hr=>⟨a.eval x,rfl,hr.ev ((ha.ev (by simp [Op.operands])).trans hx)⟩
theorem LOK.pickT {d:Nat} {c x y:Operand} {ty:TypeId} {pos:String} {after:Array Edge} {g:Option (Nat×Bool)} {lv:LV} (hc:σ.ev c=some (.sv (.one (.val (.bool true))))) (hx:σ.ev x=some lv):
    LOK P n ops ⟨some d,.pick c x y,ty,pos,after,g⟩ σ ⟨[(d,lv)],[],[]⟩:=
  LOK.value fun σ' ha C ι a w hr=>by
    have h1:a.eval c = .bool true:=hr.ev ((ha.ev (by simp [Op.operands])).trans hc)
    exact ⟨a.eval x,by simp [execOp,h1,asBool],hr.ev ((ha.ev (by simp [Op.operands])).trans hx)⟩
theorem LOK.pickF {d:Nat} {c x y:Operand} {ty:TypeId} {pos:String} {after:Array Edge} {g:Option (Nat×Bool)} {lv:LV} (hc:σ.ev c=some (.sv (.one (.val (.bool false))))) (hy:σ.ev y=some lv):
    LOK P n ops ⟨some d,.pick c x y,ty,pos,after,g⟩ σ ⟨[(d,lv)],[],[]⟩:=
  LOK.value fun σ' ha C ι a w hr=>by
    have h1:a.eval c = .bool false:=hr.ev ((ha.ev (by simp [Op.operands])).trans hc)
    exact ⟨a.eval y,by simp [execOp,h1,asBool],hr.ev ((ha.ev (by simp [Op.operands])).trans hy)⟩
theorem LOK.extract {d:Nat} {x:Operand} {i:Nat} {ty:TypeId} {pos:String} {after:Array Edge} {g:Option (Nat×Bool)} {l:List SV} {s:SV} (hx:σ.ev x=some (.tup l)) (hi:l[i]? = some s):
    LOK P n ops ⟨some d,.extract x i,ty,pos,after,g⟩ σ ⟨[(d,.sv s)],[],[]⟩:=
  LOK.value fun σ' ha C ι a w hr=>by
    obtain ⟨arr,he,hl⟩:=hr.ev ((ha.ev (by simp [Op.operands])).trans hx)
    obtain ⟨v,hv,hvr⟩:=SVs.rel_get hl hi
    have hv':arr[i]? = some v:=by simpa using hv
    exact ⟨v,by simp [execOp,he,Instr.extract,hv'],hvr⟩
theorem LOK.un {d:Nat} {op:UnOp} {t:TypeId} {x:Operand} {ty:TypeId} {pos:String} {after:Array Edge} {g:Option (Nat×Bool)} {u r:Value} (hx:σ.ev x=some (.sv (.one (.val u))))
    (hrun:∀ w,(Op.unary op u).run P w = .ok r w):
    LOK P n ops ⟨some d,.unOp op t x,ty,pos,after,g⟩ σ ⟨[(d,.sv (.one (.val r)))],[],[]⟩:=
  LOK.value fun σ' ha C ι a w hr=>by
    have h1:a.eval x=u:=hr.ev ((ha.ev (by simp [Op.operands])).trans hx)
    exact ⟨r,by simp [execOp,h1,hrun],rfl⟩
theorem LOK.not {d:Nat} {t:TypeId} {x:Operand} {ty:TypeId} {pos:String} {after:Array Edge} {g:Option (Nat×Bool)} {b c:Bool} (hx:σ.ev x=some (.sv (.one (.val (.bool b))))) (hc:(!b)=c):
    LOK P n ops ⟨some d,.unOp .not t x,ty,pos,after,g⟩ σ ⟨[(d,.sv (.one (.val (.bool c))))],[],[]⟩:=
  LOK.un hx fun w=>by subst hc;rfl
theorem LOK.neg {d:Nat} {t:TypeId} {x:Operand} {ty:TypeId} {pos:String} {after:Array Edge} {g:Option (Nat×Bool)} {k:IntKind} {b c:Int} (hx:σ.ev x=some (.sv (.one (.val (.int k b))))) (hc:k.wrap (0-b)=c):
    LOK P n ops ⟨some d,.unOp .neg t x,ty,pos,after,g⟩ σ ⟨[(d,.sv (.one (.val (.int k c))))],[],[]⟩:=
  LOK.un hx fun w=>by subst hc;rfl
theorem LOK.bin {d:Nat} {op:BinOp} {t t':TypeId} {x y:Operand} {ty:TypeId} {pos:String} {after:Array Edge} {g:Option (Nat×Bool)} {u v r:Value} (hx:σ.ev x=some (.sv (.one (.val u)))) (hy:σ.ev y=some (.sv (.one (.val v))))
    (hrun:∀ w,((do eqGuard op t x y u v;binOp op t u v):Sem Value).run P w = .ok r w):
    LOK P n ops ⟨some d,.binOp op t x y t',ty,pos,after,g⟩ σ ⟨[(d,.sv (.one (.val r)))],[],[]⟩:=
  LOK.value fun σ' ha C ι a w hr=>by
    have h1:a.eval x=u:=hr.ev ((ha.ev (by simp [Op.operands])).trans hx)
    have h2:a.eval y=v:=hr.ev ((ha.ev (by simp [Op.operands])).trans hy)
    refine ⟨r,?_,rfl⟩
    have:=hrun w
    simp only [execOp,h1,h2,Sem.run_bind] at this ⊢
    rw [this]
    simp
section ints
variable {d:Nat} {t t':TypeId} {x y:Operand} {ty:TypeId} {pos:String} {after:Array Edge} {g:Option (Nat×Bool)} {k k':IntKind} {a b c:Int} {r:Bool}
theorem LOK.add (hx:σ.ev x=some (.sv (.one (.val (.int k a))))) (hy:σ.ev y=some (.sv (.one (.val (.int k b))))) (hc:k.wrap (a+b)=c):
    LOK P n ops ⟨some d,.binOp .add t x y t',ty,pos,after,g⟩ σ ⟨[(d,.sv (.one (.val (.int k c))))],[],[]⟩:=
  LOK.bin hx hy fun w=>by subst hc;simp [eqGuard_add,binOp_add,Op.intArith]
theorem LOK.sub (hx:σ.ev x=some (.sv (.one (.val (.int k a))))) (hy:σ.ev y=some (.sv (.one (.val (.int k b))))) (hc:k.wrap (a-b)=c):
    LOK P n ops ⟨some d,.binOp .sub t x y t',ty,pos,after,g⟩ σ ⟨[(d,.sv (.one (.val (.int k c))))],[],[]⟩:=
  LOK.bin hx hy fun w=>by subst hc;simp [eqGuard_sub,binOp_sub,Op.intArith]
theorem LOK.mul (hx:σ.ev x=some (.sv (.one (.val (.int k a))))) (hy:σ.ev y=some (.sv (.one (.val (.int k b))))) (hc:k.wrap (a*b)=c):
    LOK P n ops ⟨some d,.binOp .mul t x y t',ty,pos,after,g⟩ σ ⟨[(d,.sv (.one (.val (.int k c))))],[],[]⟩:=
  LOK.bin hx hy fun w=>by subst hc;simp [eqGuard_mul,binOp_mul,Op.intArith]
theorem LOK.quo (hx:σ.ev x=some (.sv (.one (.val (.int k a))))) (hy:σ.ev y=some (.sv (.one (.val (.int k b))))) (hb:b≠0) (hc:k.wrap (a.tdiv b)=c):
    LOK P n ops ⟨some d,.binOp .quo t x y t',ty,pos,after,g⟩ σ ⟨[(d,.sv (.one (.val (.int k c))))],[],[]⟩:=
  LOK.bin hx hy fun w=>by subst hc;simp [eqGuard_quo,binOp_quo,Op.intDiv,hb]
theorem LOK.rem (hx:σ.ev x=some (.sv (.one (.val (.int k a))))) (hy:σ.ev y=some (.sv (.one (.val (.int k b))))) (hb:b≠0) (hc:a.tmod b=c):
    LOK P n ops ⟨some d,.binOp .rem t x y t',ty,pos,after,g⟩ σ ⟨[(d,.sv (.one (.val (.int k c))))],[],[]⟩:=
  LOK.bin hx hy fun w=>by subst hc;simp [eqGuard_rem,binOp_rem,Op.intDiv,hb]
theorem LOK.bitop {op:BinOp} (hop:op = .and∨op = .or∨op = .xor∨op = .andNot) (hx:σ.ev x=some (.sv (.one (.val (.int k a))))) (hy:σ.ev y=some (.sv (.one (.val (.int k b))))) (hc:bits op k a b=c):
    LOK P n ops ⟨some d,.binOp op t x y t',ty,pos,after,g⟩ σ ⟨[(d,.sv (.one (.val (.int k c))))],[],[]⟩:=
  LOK.bin hx hy fun w=>by
    subst hc
    rcases hop with rfl|rfl|rfl|rfl
    · simp [eqGuard_and,binOp_and,Op.intBits];rfl
    · simp [eqGuard_or,binOp_or,Op.intBits];rfl
    · simp [eqGuard_xor,binOp_xor,Op.intBits];rfl
    · simp only [eqGuard_andNot,binOp_andNot,Op.intBits];rfl
theorem LOK.shl (hx:σ.ev x=some (.sv (.one (.val (.int k a))))) (hy:σ.ev y=some (.sv (.one (.val (.int k' b))))) (hb:0≤b) (hc:k.wrap (a*2^(min b.toNat k.bits))=c):
    LOK P n ops ⟨some d,.binOp .shl t x y t',ty,pos,after,g⟩ σ ⟨[(d,.sv (.one (.val (.int k c))))],[],[]⟩:=
  LOK.bin hx hy fun w=>by subst hc;simp [eqGuard_shl,binOp_shl,Op.shift,Int.not_lt.2 hb]
theorem LOK.shr (hx:σ.ev x=some (.sv (.one (.val (.int k a))))) (hy:σ.ev y=some (.sv (.one (.val (.int k' b))))) (hb:0≤b) (hc:a.fdiv (2^(min b.toNat k.bits))=c):
    LOK P n ops ⟨some d,.binOp .shr t x y t',ty,pos,after,g⟩ σ ⟨[(d,.sv (.one (.val (.int k c))))],[],[]⟩:=
  LOK.bin hx hy fun w=>by subst hc;simp [eqGuard_shr,binOp_shr,Op.shift,Int.not_lt.2 hb]
theorem LOK.eql (hx:σ.ev x=some (.sv (.one (.val (.int k a))))) (hy:σ.ev y=some (.sv (.one (.val (.int k b))))) (hc:(a==b)=r):
    LOK P n ops ⟨some d,.binOp .eql t x y t',ty,pos,after,g⟩ σ ⟨[(d,.sv (.one (.val (.bool r))))],[],[]⟩:=
  LOK.bin hx hy fun w=>by subst hc;simp only [eqGuard_at_int,binOp_eql];rfl
theorem LOK.neq (hx:σ.ev x=some (.sv (.one (.val (.int k a))))) (hy:σ.ev y=some (.sv (.one (.val (.int k b))))) (hc:(a != b)=r):
    LOK P n ops ⟨some d,.binOp .neq t x y t',ty,pos,after,g⟩ σ ⟨[(d,.sv (.one (.val (.bool r))))],[],[]⟩:=
  LOK.bin hx hy fun w=>by subst hc;simp only [eqGuard_at_int,binOp_neq];rfl
theorem LOK.lss (hx:σ.ev x=some (.sv (.one (.val (.int k a))))) (hy:σ.ev y=some (.sv (.one (.val (.int k b))))) (hc:decide (a<b)=r):
    LOK P n ops ⟨some d,.binOp .lss t x y t',ty,pos,after,g⟩ σ ⟨[(d,.sv (.one (.val (.bool r))))],[],[]⟩:=
  LOK.bin hx hy fun w=>by subst hc;simp only [eqGuard_at_int,binOp_lss];rfl
theorem LOK.leq (hx:σ.ev x=some (.sv (.one (.val (.int k a))))) (hy:σ.ev y=some (.sv (.one (.val (.int k b))))) (hc:decide (a≤b)=r):
    LOK P n ops ⟨some d,.binOp .leq t x y t',ty,pos,after,g⟩ σ ⟨[(d,.sv (.one (.val (.bool r))))],[],[]⟩:=
  LOK.bin hx hy fun w=>by subst hc;simp only [eqGuard_at_int,binOp_leq];rfl
theorem LOK.gtr (hx:σ.ev x=some (.sv (.one (.val (.int k a))))) (hy:σ.ev y=some (.sv (.one (.val (.int k b))))) (hc:decide (b<a)=r):
    LOK P n ops ⟨some d,.binOp .gtr t x y t',ty,pos,after,g⟩ σ ⟨[(d,.sv (.one (.val (.bool r))))],[],[]⟩:=
  LOK.bin hx hy fun w=>by subst hc;simp only [eqGuard_at_int,binOp_gtr];rfl
theorem LOK.geq (hx:σ.ev x=some (.sv (.one (.val (.int k a))))) (hy:σ.ev y=some (.sv (.one (.val (.int k b))))) (hc:decide (b≤a)=r):
    LOK P n ops ⟨some d,.binOp .geq t x y t',ty,pos,after,g⟩ σ ⟨[(d,.sv (.one (.val (.bool r))))],[],[]⟩:=
  LOK.bin hx hy fun w=>by subst hc;simp only [eqGuard_at_int,binOp_geq];rfl
theorem LOK.eqlB {p q:Bool} (hx:σ.ev x=some (.sv (.one (.val (.bool p))))) (hy:σ.ev y=some (.sv (.one (.val (.bool q))))) (hu:P.underlying t=some .bool) (hc:(p==q)=r):
    LOK P n ops ⟨some d,.binOp .eql t x y t',ty,pos,after,g⟩ σ ⟨[(d,.sv (.one (.val (.bool r))))],[],[]⟩:=
  LOK.bin hx hy fun w=>by subst hc;simp [eqGuard_at_bool,binOp,Op.equal,Op.maxDepth,run_equalIn_bool' w _ t p q hu]
theorem LOK.neqB {p q:Bool} (hx:σ.ev x=some (.sv (.one (.val (.bool p))))) (hy:σ.ev y=some (.sv (.one (.val (.bool q))))) (hu:P.underlying t=some .bool) (hc:(p != q)=r):
    LOK P n ops ⟨some d,.binOp .neq t x y t',ty,pos,after,g⟩ σ ⟨[(d,.sv (.one (.val (.bool r))))],[],[]⟩:=
  LOK.bin hx hy fun w=>by subst hc;simp [eqGuard_at_bool,binOp,Op.equal,Op.maxDepth,run_equalIn_bool' w _ t p q hu,bne]
theorem LOK.strEq {p q:ByteArray} (hx:σ.ev x=some (.sv (.one (.val (.string p))))) (hy:σ.ev y=some (.sv (.one (.val (.string q))))) (hc:(p.toList==q.toList)=r):
    LOK P n ops ⟨some d,.binOp .eql t x y t',ty,pos,after,g⟩ σ ⟨[(d,.sv (.one (.val (.bool r))))],[],[]⟩:=
  LOK.bin hx hy fun w=>by subst hc;simp [eqGuard_at_string,binOp,Op.stringOp]
theorem LOK.conv (hx:σ.ev x=some (.sv (.one (.val (.int k a))))) (hs:(P.underlying t).isSome=true) (hd:P.underlying t'=some (.int k')) (hc:k'.wrap a=c):
    LOK P n ops ⟨some d,.convert t t' x,ty,pos,after,g⟩ σ ⟨[(d,.sv (.one (.val (.int k' c))))],[],[]⟩:=
  LOK.value fun σ' ha C ι act w hr=>by
    have h1:act.eval x = .int k a:=hr.ev ((ha.ev (by simp [Op.operands])).trans hx)
    obtain ⟨e,he⟩:=Option.isSome_iff_exists.mp hs
    subst hc
    exact ⟨_,by simp [execOp,h1,convert,run_underlying he,run_underlying hd,Conv.intToInt],rfl⟩
end ints
theorem CVs.val_list {S:Nat→Option (Option Box)} {ι:Nat→Nat×Nat}:∀ {l:List Value} {vs:List Value},CVs.rel S ι (l.map .val) vs→vs=l
  | [],[],_=>rfl
  | _::_,_::_,h=>by obtain ⟨h1,h2⟩:=h;simp only [CV.rel] at h1;rw [h1,CVs.val_list h2]
  | [],_::_,h=>h.elim
  | _::_,[],h=>h.elim
def valsOf:List CV→Option (List Value)
  | []=>some []
  | .val v::r=>(valsOf r).map (v :: ·)
  | _::_=>none
theorem valsOf_eq:∀ {l:List CV} {vs:List Value},valsOf l=some vs→l=vs.map .val
  | [],vs,h=>by simp [valsOf] at h;subst h;rfl
  | .val v::r,vs,h=>by
    simp only [valsOf,Option.map_eq_some_iff] at h
    obtain ⟨us,hu,rfl⟩:=h
    simp [valsOf_eq hu]
  | .junk::_,_,h=>by simp [valsOf] at h
  | .ptr _ _::_,_,h=>by simp [valsOf] at h
  | .slc _ _ _::_,_,h=>by simp [valsOf] at h
theorem LOK.aggEq {d:Nat} {t t':TypeId} {x y:Operand} {ty:TypeId} {pos:String} {after:Array Edge} {g:Option (Nat×Bool)} {l l':List CV} {us vs:List Value} {r c:Bool} {op:BinOp}
    (hx:σ.ev x=some (.sv (.agg l))) (hy:σ.ev y=some (.sv (.agg l'))) (hl:valsOf l=some us) (hl':valsOf l'=some vs) (hgt:P.eqGuardType P.depth t=false)
    (hrun:∀ w,(Op.equalIn 10000 t (.agg us.toArray) (.agg vs.toArray)).run P w = .ok r w) (hop:(op = .eql∧c=r)∨(op = .neq∧c = !r)):
    LOK P n ops ⟨some d,.binOp op t x y t',ty,pos,after,g⟩ σ ⟨[(d,.sv (.one (.val (.bool c))))],[],[]⟩:=
  LOK.value fun σ' ha C ι a w hr=>by
    obtain ⟨p,h1,h1'⟩:=hr.ev ((ha.ev (x:=x) (by simp [Op.operands])).trans hx)
    obtain ⟨q,h2,h2'⟩:=hr.ev ((ha.ev (x:=y) (by simp [Op.operands])).trans hy)
    rw [valsOf_eq hl] at h1'
    rw [valsOf_eq hl'] at h2'
    have e1:=CVs.val_list h1'
    have e2:=CVs.val_list h2'
    have e1':p=us.toArray:=by rw [← e1]
    have e2':q=vs.toArray:=by rw [← e2]
    subst e1' e2'
    rcases hop with ⟨rfl,rfl⟩|⟨rfl,rfl⟩
    · exact ⟨_,by simp only [execOp,h1,h2,Sem.run_bind,run_eqGuard_agg w .eql t x y _ _ hgt,Result.andThen_ok,run_eql_struct,hrun];rfl,rfl⟩
    · exact ⟨_,by simp only [execOp,h1,h2,Sem.run_bind,run_eqGuard_agg w .neq t x y _ _ hgt,Result.andThen_ok,run_neq_struct,hrun];rfl,rfl⟩
def fieldOf (P:Program) (s:TypeId) (i:Nat):Option (Nat×Nat):=
  match P.underlying s with
  | some (.struct fs)=>match fs[i]? with
    | some f=>(P.info? f.type).map fun j=>(f.offset,j.size)
    | none=>none
  | _=>none
theorem LOK.fieldAddr {d:Nat} {s i:Nat} {x:Operand} {ty:TypeId} {pos:String} {after:Array Edge} {g:Option (Nat×Bool)} {k off o m:Nat} {off':Nat} (hx:σ.ev x=some (.sv (.one (.ptr k off))))
    (hf:fieldOf P s i=some (o,m+1)) (ho:off+o=off'):
    LOK P n ops ⟨some d,.fieldAddr s x i,ty,pos,after,g⟩ σ ⟨[(d,.sv (.one (.ptr k off')))],[],[]⟩:=
  LOK.value fun σ' ha C ι a w hr=>by
    have h1:=hr.ev ((ha.ev (x:=x) (by simp [Op.operands])).trans hx)
    subst ho
    unfold fieldOf at hf
    cases hu:P.underlying s with
    | none=>simp [hu] at hf
    | some dd =>
      cases dd<;>simp only [hu] at hf<;>try (simp at hf;done)
      rename_i fs
      cases hfi:fs[i]? with
      | none=>simp [hfi] at hf
      | some f =>
        cases hin:P.info? f.type with
        | none=>simp [hfi,hin] at hf
        | some inf =>
          simp only [hfi,hin,Option.map_some,Option.some.injEq,Prod.mk.injEq] at hf
          obtain ⟨e1,e2⟩:=hf
          simp only [LV.rel,SV.rel,CV.rel] at h1 ⊢
          cases hk:σ'.stat k with
          | none=>simp [hk] at h1
          | some bb =>
            cases bb with
            | none =>
              simp only [hk] at h1 ⊢
              obtain ⟨b,h1⟩:=h1
              refine ⟨.pointer (some ⟨b,off+o,none⟩),?_,b,rfl⟩
              simp [execOp,Instr.fieldAt,run_underlying hu,hfi,Instr.sureAddr,h1,fieldPlace,sizeOf,typeInfo,hin,e2,addr_add,e1]
            | some b =>
              simp only [hk] at h1 ⊢
              refine ⟨_,?_,rfl⟩
              simp [execOp,Instr.fieldAt,run_underlying hu,hfi,Instr.sureAddr,h1,fieldPlace,sizeOf,typeInfo,hin,e2,addr_add,e1]
end
end Go.Lg
end
section
namespace Go.Lg
open Go Go.RowKit
def put1 (ι:Nat→Nat×Nat) (k:Nat) (b:Nat×Nat):Nat→Nat×Nat:=fun j=>if j=k then b else ι j
theorem beq_of_ne {a b:Nat} (h:a≠b):Nat.beq a b=false:=by
  cases hb:Nat.beq a b with
  | false=>rfl
  | true=>exact absurd (Nat.eq_of_beq_eq_true hb) h
section
variable {P:Program} {n:Nat} {ops:List Oper} {σ:St} {C:Ctx} {ι:Nat→Nat×Nat} {a:Act} {w:World}
theorem stat_cons (s:List (Nat×LV)) (bx:List (Nat×Option Box)) (X:Nat→Option Obj) (k j:Nat) (b:Option Box):(⟨s,(k,b)::bx,X⟩:St).stat j=if j=k then some b else look j bx:=by
  simp only [St.stat,look]
  by_cases h:j=k
  · subst h;simp [Nat.beq_refl]
  · simp [h,beq_of_ne (Ne.symm h)]
theorem Rel.blocklt (h:Rel n C ι σ a w) {k:Nat} {b:Box} (hk:σ.stat k=some (some b)):(ι k).1<w.heap.size:=by
  cases hb:b.blk with
  | true =>
    obtain ⟨arr,_,ha,_⟩:=h.boxes k b hk hb
    exact (Array.getElem?_eq_some_iff.1 ha).1
  | false =>
    obtain ⟨e,cs,R,rfl⟩:=Box.res_of hb
    obtain ⟨F,hF⟩:=h.res
    have h1:=(hF.holds k e cs R hk).2
    cases ho:F k (ι k).1 with
    | none=>exact absurd ho h1
    | some o=>exact (Array.getElem?_eq_some_iff.1 (hF.mem k _ o ho).2.1).1
theorem Box.blk_of {S:Nat→Option (Option Box)} {ι:Nat→Nat×Nat} {b:Box} {vs:List Value} (h:b.rel S ι vs):b.blk=true:=by
  unfold Box.rel at h
  unfold Box.blk
  cases hr:b.row with
  | bool r=>rfl
  | res R=>rw [hr] at h;exact h.elim
theorem heap_alloc_lt {w:World} {o:Obj} {i:Nat} (h:i<w.heap.size):(w.alloc o).heap[i]? = w.heap[i]? := by
  show (w.heap.push o)[i]? = w.heap[i]?
  rw [Array.getElem?_push,if_neg (Nat.ne_of_lt h)]
theorem Rel.newF (h:Rel n C ι σ a w) {fr:Nat×Nat} {k:Nat} (hlt:k<1000000) (hk:σ.stat k=none) {b:Box} {arr:Array Value} (hfr:Thaw fr arr.size) (hb:b.rel σ.stat ι arr.toList):
    Rel n C (put1 ι k (w.heap.size,arr.size)) ⟨σ.slots,(k,some b)::σ.boxes,σ.X⟩ a (w.alloc (.cells arr b.elem fr)):=by
  have hst:∀ j,(⟨σ.slots,(k,some b)::σ.boxes,σ.X⟩:St).stat j=if j=k then some (some b) else σ.stat j:=fun j=>stat_cons _ _ _ _ j _
  have hlater:Later σ.stat (⟨σ.slots,(k,some b)::σ.boxes,σ.X⟩:St).stat ι (put1 ι k (w.heap.size,arr.size)):=by
    intro j hj
    have hne:j≠k:=by rintro rfl;exact hj hk
    rw [hst,if_neg hne]
    exact ⟨hj,fun b' hb'=>⟨by simp [put1,hne],b',hb'⟩⟩
  have hXlt:∀ j o,σ.X j=some o→j<w.heap.size:=fun j o hj=>(Array.getElem?_eq_some_iff.1 (h.ext j o hj)).1
  exact {
    defers:=h.defers,size:=h.size
    slots:=fun d lv hd=>by
      obtain ⟨v,hv,hr⟩:=h.slots d lv hd
      exact ⟨v,hv,LV.rel_later hlater hr⟩
    boxes:=fun j b' hb' hbk=>by
      rw [hst] at hb'
      by_cases e:j=k
      · subst e
        simp only [if_true,Option.some.injEq] at hb'
        subst hb'
        refine ⟨arr,fr,?_,hfr,by simp only [put1,if_true],Box.rel_later hlater hb⟩
        simp only [put1,if_true]
        exact heap_alloc_new w _
      · rw [if_neg e] at hb'
        obtain ⟨arr',fr',ha',ht',hs',hr'⟩:=h.boxes j b' hb' hbk
        refine ⟨arr',fr',?_,ht',by simp only [put1,e,if_false];exact hs',Box.rel_later hlater hr'⟩
        simp only [put1,e,if_false]
        rw [heap_alloc_lt (h.blocklt hb')]
        exact ha'
    own:=fun j b' hb'=>by
      rw [hst] at hb'
      by_cases e:j=k
      · subst e
        simp only [put1,if_true]
        refine ⟨.inr h.big,?_⟩
        show σ.X w.heap.size=none
        cases hx:σ.X w.heap.size with
        | none=>rfl
        | some o=>exact absurd (hXlt _ o hx) (by omega)
      · rw [if_neg e] at hb'
        simp only [put1,e,if_false]
        exact h.own j b' hb'
    inj:=fun i j bi bj hi hj heq=>by
      rw [hst] at hi hj
      by_cases ei:i=k
      · by_cases ej:j=k
        · rw [ei,ej]
        · rw [if_neg ej] at hj
          have:=h.blocklt hj
          simp only [put1,ei,if_true,ej,if_false] at heq
          omega
      · rw [if_neg ei] at hi
        by_cases ej:j=k
        · have:=h.blocklt hi
          simp only [put1,ej,if_true,ei,if_false] at heq
          omega
        · rw [if_neg ej] at hj
          simp only [put1,ei,ej,if_false] at heq
          exact h.inj i j bi bj hi hj heq
    keep:=fun j b' hb' hj=>by
      rw [hst] at hb'
      have e:j≠k:=by omega
      rw [if_neg e] at hb'
      simp only [put1,e,if_false]
      exact h.keep j b' hb' hj
    ext:=fun j o hj=>by rw [heap_alloc_lt (hXlt j o hj)];exact h.ext j o hj
    res:=by
      obtain ⟨F,hF⟩:=h.res
      refine hF.keep (fun j e cs R hj => ?_) (fun j o _ _ _ hj=>by rw [heap_alloc_lt (Array.getElem?_eq_some_iff.1 hj).1];exact hj) (fun _ _ ho=>ho) (fun _ _ hx _ _=>hx) (fun j bj hj => ?_)
      · rw [hst] at hj
        by_cases e:j=k
        · rw [if_pos e] at hj
          simp only [Option.some.injEq] at hj
          have:=Box.blk_of hb
          rw [hj] at this;cases this
        · rw [if_neg e] at hj
          exact ⟨hj,by simp [put1,e]⟩
      · rw [hst] at hj
        by_cases e:j=k
        · exact .inr (.inr (.inl (by simp [put1,e])))
        · rw [if_neg e] at hj
          exact .inl ⟨bj,hj,by simp [put1,e]⟩
    frame:=fun j hj hn=>by rw [heap_alloc_lt (Nat.lt_of_lt_of_le hj h.big)];exact h.frame j hj hn
    big:=by simp;exact Nat.le_succ_of_le h.big
    os:=h.os,tape:=h.tape,output:=h.output }
theorem Rel.new (h:Rel n C ι σ a w) {k:Nat} (hlt:k<1000000) (hk:σ.stat k=none) {b:Box} {arr:Array Value} (hb:b.rel σ.stat ι arr.toList):
    Rel n C (put1 ι k (w.heap.size,arr.size)) ⟨σ.slots,(k,some b)::σ.boxes,σ.X⟩ a (w.alloc (.cells arr b.elem)):=h.newF hlt hk (Thaw.zero _) hb
theorem Rel.write (h:Rel n C ι σ a w) {k:Nat} {b b':Box} (hk:σ.stat k=some (some b)) (hkb:b.blk=true) (he:b'.elem=b.elem) {arr:Array Value} (hs:arr.size=(ι k).2) (hb:b'.rel σ.stat ι arr.toList):
    Rel n C ι ⟨σ.slots,(k,some b')::σ.boxes,σ.X⟩ a (w.setRow (ι k).1 arr):=by
  have hst:∀ j,(⟨σ.slots,(k,some b')::σ.boxes,σ.X⟩:St).stat j=if j=k then some (some b') else σ.stat j:=fun j=>stat_cons _ _ _ _ j _
  have hlater:Later σ.stat (⟨σ.slots,(k,some b')::σ.boxes,σ.X⟩:St).stat ι ι:=by
    intro j hj
    rw [hst]
    by_cases e:j=k
    · subst e;rw [if_pos rfl];exact ⟨by simp,fun _ _=>⟨rfl,b,hk⟩⟩
    · rw [if_neg e];exact ⟨hj,fun b'' hb''=>⟨rfl,b'',hb''⟩⟩
  obtain ⟨old,ofr,hold,hot,hos,_⟩:=h.boxes k b hk hkb
  have live:∀ j b'',(⟨σ.slots,(k,some b')::σ.boxes,σ.X⟩:St).stat j=some (some b'')→∃ b0,σ.stat j=some (some b0):=by
    intro j b'' hj
    rw [hst] at hj
    by_cases e:j=k
    · subst e;exact ⟨b,hk⟩
    · rw [if_neg e] at hj;exact ⟨b'',hj⟩
  exact {
    defers:=h.defers,size:=h.size
    slots:=fun d lv hd=>by
      obtain ⟨v,hv,hr⟩:=h.slots d lv hd
      exact ⟨v,hv,LV.rel_later hlater hr⟩
    boxes:=fun j b'' hb'' hbk=>by
      rw [hst] at hb''
      by_cases e:j=k
      · subst e
        simp only [if_true,Option.some.injEq] at hb''
        subst hb''
        refine ⟨arr,ofr,?_,by rw [hs,← hos];exact hot,hs,Box.rel_later hlater hb⟩
        rw [he]
        exact setRow_heap w (ι j).1 old arr b.elem ofr hold
      · rw [if_neg e] at hb''
        obtain ⟨arr',fr',ha',ht',hs',hr'⟩:=h.boxes j b'' hb'' hbk
        refine ⟨arr',fr',?_,ht',hs',Box.rel_later hlater hr'⟩
        rw [setRow_other w (ι k).1 (ι j).1 arr (fun e'=>e (h.inj j k b'' b hb'' hk e'))]
        exact ha'
    own:=fun j b'' hb''=>by obtain ⟨b0,h0⟩:=live j b'' hb'';exact h.own j b0 h0
    inj:=fun i j bi bj hi hj heq=>by
      obtain ⟨b1,h1⟩:=live i bi hi
      obtain ⟨b2,h2⟩:=live j bj hj
      exact h.inj i j b1 b2 h1 h2 heq
    keep:=fun j b'' hb'' hj=>by obtain ⟨b0,h0⟩:=live j b'' hb'';exact h.keep j b0 h0 hj
    ext:=fun j o hj=>by
      rw [setRow_other w (ι k).1 j arr (fun e=>by rw [e,(h.own k b hk).2] at hj;simp at hj)]
      exact h.ext j o hj
    res:=by
      obtain ⟨F,hF⟩:=h.res
      refine hF.keep (fun j e cs R hj => ?_) (fun j o _ _ hne hj=>by rw [setRow_other w (ι k).1 j arr (fun e=>hne k b hk hkb e.symm)];exact hj) (fun j _ ho=>ho) (fun _ _ hx _ _=>hx) (fun j bj hj => ?_)
      · rw [hst] at hj
        by_cases e:j=k
        · rw [if_pos e] at hj
          simp only [Option.some.injEq] at hj
          have:=Box.blk_of hb
          rw [hj] at this;cases this
        · rw [if_neg e] at hj
          exact ⟨hj,rfl⟩
      · obtain ⟨b0,h0⟩:=live j bj hj
        exact .inl ⟨b0,h0,rfl⟩
    frame:=fun j hj hn=>by
      rw [setRow_other w (ι k).1 j arr (fun e=>by
        rcases (h.own k b hk).1 with ho|ho
        · exact hn (by rw [e];exact ho)
        · omega)]
      exact h.frame j hj hn
    big:=by simp;exact h.big
    os:=h.os,tape:=h.tape,output:=h.output }
theorem LOK.make {d:Nat} {op:Op} {ty:TypeId} {pos:String} {after:Array Edge} {g:Option (Nat×Bool)} {lv:LV} {ft:List Nat} {nb:List (Nat×Option Box)}
    (h:∀ σ',Agree ops ⟨some d,op,ty,pos,after,g⟩ ⟨[(d,lv)],ft,nb⟩ σ σ'→∀ (C:Ctx) (ι:Nat→Nat×Nat) (a:Act) (w:World),Rel n C ι σ' a w →
      ∃ v w' ι',(execOp a.eval ⟨some d,op,ty,pos,after,g⟩).run P w = .ok (.value v) w'∧Rel n C ι' ⟨σ'.slots,nb++σ'.boxes,σ'.X⟩ a w'∧lv.rel (⟨σ'.slots,nb++σ'.boxes,σ'.X⟩:St).stat ι' v):
    LOK P n ops ⟨some d,op,ty,pos,after,g⟩ σ ⟨[(d,lv)],ft,nb⟩:=by
  refine ⟨fun σ' ha C ι a w hr hd next Q hn => ?_⟩
  obtain ⟨v,w',ι',hrun,hr',hv⟩:=h σ' ha C ι a w hr
  unfold Oper.wp
  rw [hrun]
  exact hn ι' _ w' (hr'.put (hd d rfl) hv)
theorem LOK.act {op:Op} {ty:TypeId} {pos:String} {after:Array Edge} {g:Option (Nat×Bool)} {ft:List Nat} {nb:List (Nat×Option Box)}
    (h:∀ σ',Agree ops ⟨none,op,ty,pos,after,g⟩ ⟨[],ft,nb⟩ σ σ'→∀ (C:Ctx) (ι:Nat→Nat×Nat) (a:Act) (w:World),Rel n C ι σ' a w →
      ∃ w' ι',(execOp a.eval ⟨none,op,ty,pos,after,g⟩).run P w = .ok .skip w'∧Rel n C ι' ⟨σ'.slots,nb++σ'.boxes,σ'.X⟩ a w'):
    LOK P n ops ⟨none,op,ty,pos,after,g⟩ σ ⟨[],ft,nb⟩:=by
  refine ⟨fun σ' ha C ι a w hr _ next Q hn => ?_⟩
  obtain ⟨w',ι',hrun,hr'⟩:=h σ' ha C ι a w hr
  unfold Oper.wp
  rw [hrun]
  exact hn ι' _ w' hr'
def zeroOf (P:Program) (t:TypeId):Option (List Value):=(P.info? t).bind fun i=>i.zero.map fun z=>z.cells.toList
theorem LOK.alloc {d k:Nat} {el:TypeId} {ty:TypeId} {pos:String} {after:Array Edge} {g:Option (Nat×Bool)} {zs:List Value} {zc:List CV} (hz:zeroOf P el=some zs) (hk:σ.fresh k=true) (hzc:zs.map .val=zc):
    LOK P n ops ⟨some d,.alloc el,ty,pos,after,g⟩ σ ⟨[(d,.sv (.one (.ptr k 0)))],[],[(k,some ⟨el,zc,false⟩)]⟩:=
  LOK.make fun σ' ha C ι a w hr=>by
    subst hzc
    have hk':σ'.stat k=none:=(ha.stat k (.inr (by simp))).trans (St.fresh_none hk)
    have hlt:=St.fresh_lt hk
    unfold zeroOf at hz
    cases hi:P.info? el with
    | none=>simp [hi] at hz
    | some i =>
      cases hz':i.zero with
      | none=>simp [hi,hz'] at hz
      | some z =>
        simp only [hi,Option.bind_some,hz',Option.map_some,Option.some.injEq] at hz
        refine ⟨.pointer (some ⟨w.heap.size,0,none⟩),w.alloc (.cells z.cells el),put1 ι k (w.heap.size,z.cells.size),?_,?_,?_⟩
        · simp [execOp,Instr.alloc,zeroValue,typeInfo,hi,hz',newVar,newRow]
        · exact hr.new hlt hk' (b:=⟨el,zs.map .val,false⟩) (by simp only [Box.rel];rw [← hz];exact CVs.rel_map_val _)
        · simp [LV.rel,SV.rel,CV.rel,stat_cons,put1]
def SV.cells:SV→List CV
  | .one c=>[c]
  | .agg l=>l
theorem SV.rel_cells {S:Nat→Option (Option Box)} {ι:Nat→Nat×Nat} {s:SV} {v:Value} (h:s.rel S ι v) (hs:∀ c,s = .one c→v.oneCell'=true):CVs.rel S ι s.cells v.cells.toList:=by
  cases s with
  | one c =>
    have:=hs c rfl
    cases v<;>first|exact ⟨h,trivial⟩|simp [Value.oneCell'] at this
  | agg l=>obtain ⟨arr,rfl,hl⟩:=h;exact hl
def CV.solid:CV→Bool
  | .val v=>v.oneCell'
  | .junk=>false
  | _=>true
theorem CV.rel_solid {S:Nat→Option (Option Box)} {ι:Nat→Nat×Nat} {c:CV} {v:Value} (h:c.rel S ι v) (hs:c.solid=true):v.oneCell'=true:=by
  cases c with
  | val u=>simp only [CV.rel] at h;subst h;exact hs
  | junk=>simp [CV.solid] at hs
  | ptr k o =>
    simp only [CV.rel] at h
    cases hk:S k with
    | none=>simp [hk] at h
    | some x=>cases x with
      | none=>rw [hk] at h;obtain ⟨b,rfl⟩:=h;rfl
      | some b=>rw [hk] at h;simp only at h;subst h;rfl
  | slc k o m sz =>
    simp only [CV.rel] at h
    cases hk:S k with
    | none=>simp [hk] at h
    | some x=>cases x with
      | none=>rw [hk] at h;obtain ⟨b,c,rfl,_⟩:=h;rfl
      | some b=>rw [hk] at h;obtain ⟨c,rfl,_⟩:=h;rfl
  | mp k =>
    simp only [CV.rel] at h
    cases hk:S k with
    | none=>simp [hk] at h
    | some x=>cases x with
      | none=>rw [hk] at h;obtain ⟨b,rfl⟩:=h;rfl
      | some b=>rw [hk] at h;simp only at h;subst h;rfl
  | fn fi gi k =>
    simp only [CV.rel] at h
    cases hk:S k with
    | none=>simp [hk] at h
    | some x=>cases x with
      | none=>rw [hk] at h;obtain ⟨b,rfl⟩:=h;rfl
      | some b=>rw [hk] at h;simp only at h;subst h;rfl
  | hang g hg k =>
    simp only [CV.rel] at h
    cases hk:S k with
    | none=>simp [hk] at h
    | some x=>cases x with
      | none=>rw [hk] at h;obtain ⟨b,rfl⟩:=h;exact hg _
      | some b=>rw [hk] at h;simp only at h;subst h;exact hg _
def SV.solid:SV→Bool
  | .one c=>c.solid
  | .agg l=>l.all CV.solid
theorem SV.cells_ok {S:Nat→Option (Option Box)} {ι:Nat→Nat×Nat} {s:SV} {v:Value} (h:s.rel S ι v) (hs:s.solid=true):CVs.rel S ι s.cells v.cells.toList∧∀ u∈v.cells.toList,u.oneCell'=true:=by
  cases s with
  | one c =>
    have h1:=CV.rel_solid h hs
    refine ⟨SV.rel_cells h fun _ _=>h1,?_⟩
    cases v<;>first|(intro u hu;simp [Value.cells] at hu;subst hu;exact h1)|simp [Value.oneCell'] at h1
  | agg l =>
    obtain ⟨arr,rfl,hl⟩:=h
    refine ⟨hl,?_⟩
    have:∀ (l:List CV) (vs:List Value),CVs.rel S ι l vs→l.all CV.solid=true→∀ u∈vs,u.oneCell'=true:=by
      intro l
      induction l with
      | nil=>intro vs h _ u hu;cases vs with
        | nil=>simp at hu
        | cons=>exact h.elim
      | cons c l ih=>intro vs h hall u hu;cases vs with
        | nil=>exact h.elim
        | cons v vs =>
          simp only [List.all_cons,Bool.and_eq_true] at hall
          rcases List.mem_cons.1 hu with rfl|hu
          · exact CV.rel_solid h.1 hall.1
          · exact ih vs h.2 hall.2 u hu
    exact this l arr.toList hl hs
theorem LOK.box {d k:Nat} {el:TypeId} {x:Operand} {ty:TypeId} {pos:String} {after:Array Edge} {g:Option (Nat×Bool)} {s:SV} {cs:List CV} (hx:σ.ev x=some (.sv s)) (hs:s.solid=true) (hk:σ.fresh k=true) (hcs:s.cells=cs):
    LOK P n ops ⟨some d,.box el x,ty,pos,after,g⟩ σ ⟨[(d,.sv (.one (.ptr k 0)))],[],[(k,some ⟨el,cs,false⟩)]⟩:=
  LOK.make fun σ' ha C ι a w hr=>by
    subst hcs
    have hk':σ'.stat k=none:=(ha.stat k (.inr (by simp))).trans (St.fresh_none hk)
    have hlt:=St.fresh_lt hk
    have hv:=hr.ev ((ha.ev (x:=x) (by simp [Op.operands])).trans hx)
    refine ⟨.pointer (some ⟨w.heap.size,0,none⟩),w.alloc (.cells (a.eval x).cells el),put1 ι k (w.heap.size,(a.eval x).cells.size),?_,?_,?_⟩
    · simp [execOp,Instr.box,newVar,newRow]
    · exact hr.new hlt hk' (b:=⟨el,s.cells,false⟩) (SV.cells_ok hv hs).1
    · simp [LV.rel,SV.rel,CV.rel,stat_cons,put1]
theorem LOK.loadAll {d k:Nat} {x:Operand} {t ty:TypeId} {pos:String} {after:Array Edge} {g:Option (Nat×Bool)} {el:TypeId} {cs:List CV} (hx:σ.ev x=some (.sv (.one (.ptr k 0)))) (hk:σ.stat k=some (some ⟨el,cs,false⟩))
    (hs:aggSize P t=some cs.length):
    LOK P n ops ⟨some d,.load t x,ty,pos,after,g⟩ σ ⟨[(d,.sv (.agg cs))],[k],[]⟩:=
  LOK.value fun σ' ha C ι a w hr=>by
    have hk':=(ha.stat k (.inl (by simp))).trans hk
    have hv:=hr.ev ((ha.ev (x:=x) (by simp [Op.operands])).trans hx)
    simp only [LV.rel,SV.rel,CV.rel,hk'] at hv
    obtain ⟨arr,fr,harr,hthaw,hasz,hrel⟩:=hr.boxes k _ hk' rfl
    simp only [Box.rel] at hrel
    have hlen:=CVs.rel_length hrel
    have:=run_load_agg hs harr (off:=0) (by simp at hlen;omega)
    simp only [List.drop_zero] at this
    rw [List.take_of_length_le (by omega)] at this
    exact ⟨.agg arr,by simp [execOp,hv,Instr.loadAt,Instr.sureAddr,this],arr,rfl,hrel⟩
theorem LOK.loadPart {d k off m:Nat} {x:Operand} {t ty:TypeId} {pos:String} {after:Array Edge} {g:Option (Nat×Bool)} {e:TypeId} {cs:List CV} {row:Bool} {l:List CV} (hx:σ.ev x=some (.sv (.one (.ptr k off)))) (hk:σ.stat k=some (some ⟨e,cs,row⟩))
    (hs:aggSize P t=some m) (hm:off+m≤cs.length) (hl:(cs.drop off).take m=l):
    LOK P n ops ⟨some d,.load t x,ty,pos,after,g⟩ σ ⟨[(d,.sv (.agg l))],[k],[]⟩:=
  LOK.value fun σ' ha C ι a w hr=>by
    subst hl
    have hk':=(ha.stat k (.inl (by simp))).trans hk
    have hv:=hr.ev ((ha.ev (x:=x) (by simp [Op.operands])).trans hx)
    simp only [LV.rel,SV.rel,CV.rel,hk'] at hv
    obtain ⟨arr,fr,harr,hthaw,hasz,hrel⟩:=hr.boxes k _ hk' rfl
    obtain ⟨h1,h2⟩:=Box.rel_part hrel hm
    have:=run_load_agg hs harr (off:=off) (by simpa using h1)
    exact ⟨.agg (List.take m (List.drop off arr.toList)).toArray,by simp only [execOp,hv,Instr.loadAt,Instr.sureAddr,Sem.run_bind,Sem.run_pure,Result.andThen_ok,this],_,rfl,by simpa using h2⟩
theorem LOK.loadOne {d k off:Nat} {x:Operand} {t ty:TypeId} {pos:String} {after:Array Edge} {g:Option (Nat×Bool)} {e:TypeId} {cs:List CV} {row:Bool} {c:CV} (hx:σ.ev x=some (.sv (.one (.ptr k off)))) (hk:σ.stat k=some (some ⟨e,cs,row⟩))
    (hs:oneType P t=true) (hc:cs[off]? = some c):
    LOK P n ops ⟨some d,.load t x,ty,pos,after,g⟩ σ ⟨[(d,.sv (.one c))],[k],[]⟩:=
  LOK.value fun σ' ha C ι a w hr=>by
    have hk':=(ha.stat k (.inl (by simp))).trans hk
    have hv:=hr.ev ((ha.ev (x:=x) (by simp [Op.operands])).trans hx)
    simp only [LV.rel,SV.rel,CV.rel,hk'] at hv
    obtain ⟨arr,fr,harr,hthaw,hasz,hrel⟩:=hr.boxes k _ hk' rfl
    obtain ⟨v,hv',hcr⟩:=Box.rel_get hrel hc
    have:=run_load_one hs harr (v:=v) (by simpa using hv')
    exact ⟨v,by simp [execOp,hv,Instr.loadAt,Instr.sureAddr,this],hcr⟩
theorem LOK.loadX {d b off:Nat} {x:Operand} {t ty:TypeId} {pos:String} {after:Array Edge} {g:Option (Nat×Bool)} {arr:Array Value} {el:TypeId} {fr:Nat×Nat} {v:Value} (hx:σ.ev x=some (.sv (.one (.val (.pointer (some ⟨b,off,none⟩))))))
    (hX:σ.X b=some (.cells arr el fr)) (hs:oneType P t=true) (hc:arr[off]? = some v):
    LOK P n ops ⟨some d,.load t x,ty,pos,after,g⟩ σ ⟨[(d,.sv (.one (.val v)))],[],[]⟩:=
  LOK.value fun σ' ha C ι a w hr=>by
    have hv:a.eval x=_:=hr.ev ((ha.ev (x:=x) (by simp [Op.operands])).trans hx)
    have hb:=hr.ext b _ (by rw [ha.X];exact hX)
    have:=run_load_one hs hb hc
    exact ⟨v,by simp [execOp,hv,Instr.loadAt,Instr.sureAddr,this],rfl⟩
theorem LOK.loadXagg {d b off m:Nat} {x:Operand} {t ty:TypeId} {pos:String} {after:Array Edge} {g:Option (Nat×Bool)} {arr:Array Value} {el:TypeId} {fr:Nat×Nat} {l:List CV} (hx:σ.ev x=some (.sv (.one (.val (.pointer (some ⟨b,off,none⟩))))))
    (hX:σ.X b=some (.cells arr el fr)) (hs:aggSize P t=some m) (hm:off+m≤arr.size) (hl:((arr.toList.drop off).take m).map .val=l):
    LOK P n ops ⟨some d,.load t x,ty,pos,after,g⟩ σ ⟨[(d,.sv (.agg l))],[],[]⟩:=
  LOK.value fun σ' ha C ι a w hr=>by
    subst hl
    have hv:a.eval x=_:=hr.ev ((ha.ev (x:=x) (by simp [Op.operands])).trans hx)
    have hb:=hr.ext b _ (by rw [ha.X];exact hX)
    have:=run_load_agg hs hb hm
    exact ⟨.agg (List.take m (List.drop off arr.toList)).toArray,by simp only [execOp,hv,Instr.loadAt,Instr.sureAddr,Sem.run_bind,Sem.run_pure,Result.andThen_ok,this],_,rfl,CVs.rel_map_val _⟩
theorem run_storeCells_at {P:Program} {g:Nat} {t:TypeId} {fr:Nat×Nat} {m:Nat} (ht:Thaw fr m):∀ (vs:List Value) (off i:Nat) (cur:Array Value) (w:World),cur.size=m→w.heap[g]? = some (.cells cur t fr)→off+i+vs.length≤cur.size→(∀ v∈vs,v.oneCell'=true) →
    (storeCells ⟨g,off,none⟩ vs i).run P w = .ok () (w.setRow g (cur.toList.take (off+i)++vs++cur.toList.drop (off+i+vs.length)).toArray)
  | [],off,i,cur,w,hm,hg,hl,_=>by
    simp only [storeCells,List.append_nil,List.length_nil,Nat.add_zero,List.take_append_drop,Array.toArray_toList]
    show Result.ok () w=_
    congr 1
    have hlt:g<w.heap.size:=(Array.getElem?_eq_some_iff.1 hg).1
    have hv:w.heap[g] = .cells cur t fr:=(Array.getElem?_eq_some_iff.1 hg).2
    unfold World.setRow
    cases w with
    | mk heap tape drawn os output =>
      congr 1
      apply Array.ext
      · simp
      · intro k h1 h2
        simp only [Array.getElem_modify]
        split
        · rename_i hk;subst hk;simp at hv;simp [hv]
        · rfl
  | v::rest,off,i,cur,w,hm,hg,hl,h1=>by
    have hi:off+i<cur.size:=by simp at hl;omega
    have hcell:w.cell? ⟨g,off+i,none⟩=some cur[off+i]:=by simp [World.cell?,hg,hi]
    have hfro:w.frozen? ⟨g,off+i,none⟩=false:=by
      have:=ht (off+i) (by omega)
      obtain ⟨lo,hi'⟩:=fr
      simpa [World.frozen?,hg] using this
    have hst:(store ((⟨g,off,none⟩:Addr).add i) v).run P w = .ok () (w.setRow g (cur.setIfInBounds (off+i) v)):=by
      rw [addr_add,run_store P w _ v _ (h1 v (by simp)),hcell]
      simp [hfro,setCell_eq_setRow w g (off+i) cur t fr v hg]
    have ih:=run_storeCells_at (P:=P) ht rest off (i+1) (cur.setIfInBounds (off+i) v) (w.setRow g (cur.setIfInBounds (off+i) v)) (by rw [Array.size_setIfInBounds];exact hm) (setRow_heap w g cur _ t _ hg) (by simp at hl ⊢;omega) (fun x hx=>h1 x (by simp [hx]))
    simp only [storeCells,Sem.run_bind,hst,Result.andThen_ok,ih,setRow_setRow]
    congr 3
    apply List.ext_getElem?
    intro j
    simp only [Array.toList_setIfInBounds,List.getElem?_append,List.length_take,List.length_set,Array.length_toList,List.length_append,List.getElem?_take,List.getElem?_set,List.getElem?_drop,List.length_cons]
    simp at hl
    rcases Nat.lt_trichotomy j (off+i) with hj|hj|hj
    · simp [show j<off+(i+1) by omega,show min (off+(i+1)) cur.size=off+(i+1) by omega,show min (off+i) cur.size=off+i by omega,show off+i≠j by omega,hj,show j<off+(i+1)+rest.length by omega,show j<off+i+(rest.length+1) by omega]
    · subst hj
      simp [show off+i<off+(i+1) by omega,show min (off+(i+1)) cur.size=off+(i+1) by omega,show min (off+i) cur.size=off+i by omega,hi,show off+i<off+(i+1)+rest.length by omega]
    · by_cases h2:j<off+i+(rest.length+1)
      · simp [show ¬ j<off+(i+1) by omega,show min (off+(i+1)) cur.size=off+(i+1) by omega,show min (off+i) cur.size=off+i by omega,show ¬ j<off+i by omega,show j<off+(i+1)+rest.length by omega,h2,show j-(off+i)=(j-(off+(i+1)))+1 by omega]
      · simp [show min (off+(i+1)) cur.size=off+(i+1) by omega,show min (off+i) cur.size=off+i by omega,show ¬ j<off+(i+1)+rest.length by omega,h2,show off+(i+1)+rest.length+(j-(off+(i+1)+rest.length))=off+i+(rest.length+1)+(j-(off+i+(rest.length+1))) by omega]
        intro hh
        exact absurd hh (by omega)
def splice {α:Type} (l:List α) (off:Nat) (new:List α):List α:=l.take off++new++l.drop (off+new.length)
theorem Box.rel_splice {S:Nat→Option (Option Box)} {ι:Nat→Nat×Nat} {b:Box} {vs:List Value} (h:b.rel S ι vs) {off:Nat} {l:List CV} {us:List Value} (hl:CVs.rel S ι l us) (hm:off+l.length≤b.cells.length):
    Box.rel S ι ⟨b.elem,splice b.cells off l,b.row⟩ (splice vs off us):=by
  have hlen:=CVs.rel_length hl
  have core:∀ vs,CVs.rel S ι b.cells vs→CVs.rel S ι (splice b.cells off l) (splice vs off us):=fun vs h=>by
    unfold splice
    rw [hlen]
    exact CVs.rel_append (CVs.rel_append (CVs.rel_take h off) hl) (CVs.rel_drop h _)
  unfold Box.rel at h ⊢
  cases hr:b.row with
  | res R=>rw [hr] at h;exact h.elim
  | bool r =>
    cases r with
    | false=>rw [hr] at h;exact core vs h
    | true =>
      rw [hr] at h
      obtain ⟨ws,sp,e,h⟩:=h
      refine ⟨splice ws off us,sp,?_,core ws h⟩
      have:=CVs.rel_length h
      unfold splice
      rw [e,List.take_append_of_le_length (by omega),List.drop_append_of_le_length (by omega)]
      simp
def sizeIs (P:Program) (t:TypeId):Option Nat:=(P.info? t).map (·.size)
theorem run_sizeIs {t:TypeId} {m:Nat} (h:sizeIs P t=some m) (w:World):(sizeOf t).run P w = .ok m w:=by
  unfold sizeIs at h
  cases hi:P.info? t with
  | none=>simp [hi] at h
  | some i=>simp [hi] at h;simp [sizeOf,typeInfo,hi,h]
theorem LOK.store {k off:Nat} {x y:Operand} {t ty:TypeId} {pos:String} {after:Array Edge} {g:Option (Nat×Bool)} {el:TypeId} {cs:List CV} {row:Bool} {s:SV} {cs':List CV} (hx:σ.ev x=some (.sv (.one (.ptr k off)))) (hy:σ.ev y=some (.sv s))
    (hk:σ.stat k=some (some ⟨el,cs,row⟩)) (hs:s.solid=true) (hz:sizeIs P t=some s.cells.length) (hm:off+s.cells.length≤cs.length) (hc:splice cs off s.cells=cs'):
    LOK P n ops ⟨none,.store t x y,ty,pos,after,g⟩ σ ⟨[],[],[(k,some ⟨el,cs',row⟩)]⟩:=
  LOK.act fun σ' ha C ι a w hr=>by
    subst hc
    have hk':=(ha.stat k (.inr (by simp))).trans hk
    have hv:=hr.ev ((ha.ev (x:=x) (by simp [Op.operands])).trans hx)
    have hu:=hr.ev ((ha.ev (x:=y) (by simp [Op.operands])).trans hy)
    simp only [LV.rel,SV.rel,CV.rel,hk'] at hv
    obtain ⟨arr,fr,harr,hthaw,hasz,hrel⟩:=hr.boxes k _ hk' rfl
    obtain ⟨h1,h2⟩:=SV.cells_ok hu hs
    have hlen:=CVs.rel_length h1
    have hbl:off+(a.eval y).cells.toList.length≤arr.size:=by
      have:=(Box.rel_part hrel (off:=0) (m:=cs.length) (by simp)).1
      simp at this
      rw [← hlen]
      omega
    have hrun:=run_storeCells_at (P:=P) hthaw (a.eval y).cells.toList off 0 arr w rfl harr (by simpa using hbl) h2
    simp only [Nat.add_zero] at hrun
    refine ⟨w.setRow (ι k).1 (splice arr.toList off (a.eval y).cells.toList).toArray,ι,?_,?_⟩
    · have hsz:(a.eval y).cells.size=s.cells.length:=by rw [hlen];simp
      simp only [execOp,hv,Instr.storeAt,Instr.sureAddr,storeVar,Sem.run_bind,Sem.run_pure,Result.andThen_ok,run_sizeIs hz,hsz,ne_eq,not_true_eq_false,if_false,hrun,splice]
    · exact hr.write hk' rfl rfl (b':=⟨el,splice cs off s.cells,row⟩) (by rw [← hasz];unfold splice;simp at hbl ⊢;omega) (by simpa using Box.rel_splice hrel h1 hm)
end
end Go.Lg
end
section
namespace Go.Lg
open Go Go.RowKit
section
variable {P:Program} {n:Nat} {ops:List Oper} {σ:St} {C:Ctx} {ι:Nat→Nat×Nat} {a:Act} {w:World}
def fillL (place:Nat→Option (Nat×Nat)) (cells:List CV):List (Nat×SV)→Option (List CV)
  | []=>some cells
  | (i,v)::rest =>
    match place i with
    | none=>none
    | some (off,size)=>cond (Nat.beq v.cells.length size&&Nat.ble (off+v.cells.length) cells.length) (fillL place (splice cells off v.cells) rest) none
theorem foldl_set (l:List Value) (off:Nat):∀ (s:Nat) (arr:Array Value),off+s+l.length≤arr.size →
    ((l.zipIdx s).foldl (fun cs (p:Value×Nat)=>cs.setIfInBounds (off+p.2) p.1) arr).toList=arr.toList.take (off+s)++l++arr.toList.drop (off+s+l.length):=by
  induction l with
  | nil=>intro s arr _;simp
  | cons v l ih =>
    intro s arr h
    simp only [List.length_cons] at h
    rw [List.zipIdx_cons,List.foldl_cons,ih (s+1) _ (by simp;omega)]
    apply List.ext_getElem?
    intro j
    simp only [Array.toList_setIfInBounds,List.getElem?_append,List.length_take,List.length_set,Array.length_toList,List.length_append,List.getElem?_take,List.getElem?_set,List.getElem?_drop,List.length_cons]
    rcases Nat.lt_trichotomy j (off+s) with hj|hj|hj
    · simp [show j<off+(s+1) by omega,show min (off+(s+1)) arr.size=off+(s+1) by omega,show min (off+s) arr.size=off+s by omega,show off+s≠j by omega,hj,show j<off+(s+1)+l.length by omega,show j<off+s+(l.length+1) by omega]
    · subst hj
      simp [show off+s<off+(s+1) by omega,show min (off+(s+1)) arr.size=off+(s+1) by omega,show min (off+s) arr.size=off+s by omega,show off+s<arr.size by omega,show off+s<off+(s+1)+l.length by omega]
    · by_cases h2:j<off+s+(l.length+1)
      · simp [show ¬ j<off+(s+1) by omega,show min (off+(s+1)) arr.size=off+(s+1) by omega,show min (off+s) arr.size=off+s by omega,show ¬ j<off+s by omega,show j<off+(s+1)+l.length by omega,h2,show j-(off+s)=(j-(off+(s+1)))+1 by omega]
      · simp [show min (off+(s+1)) arr.size=off+(s+1) by omega,show min (off+s) arr.size=off+s by omega,show ¬ j<off+(s+1)+l.length by omega,h2,show off+(s+1)+l.length+(j-(off+(s+1)+l.length))=off+s+(l.length+1)+(j-(off+s+(l.length+1))) by omega]
        intro hh
        exact absurd hh (by omega)
def PartsRel (S:Nat→Option (Option Box)) (ι:Nat→Nat×Nat):List (Nat×SV)→List (Nat×Value)→Prop
  | [],[]=>True
  | (i,s)::l,(j,v)::r=>i=j∧s.rel S ι v∧s.solid=true∧PartsRel S ι l r
  | _,_=>False
theorem fill_rel {S:Nat→Option (Option Box)} {ι:Nat→Nat×Nat} {place:Nat→Option (Nat×Nat)}:∀ {l:List (Nat×SV)} {r:List (Nat×Value)} {cells cs':List CV} {arr:Array Value},PartsRel S ι l r→CVs.rel S ι cells arr.toList→fillL place cells l=some cs' →
    ∃ arr',Instr.fill place arr r=some arr'∧CVs.rel S ι cs' arr'.toList
  | [],[],cells,cs',arr,_,h,hf=>by simp only [fillL,Option.some.injEq] at hf;subst hf;exact ⟨arr,rfl,h⟩
  | (i,s)::l,(j,v)::r,cells,cs',arr,hp,h,hf=>by
    obtain ⟨rfl,hs,hso,hp⟩:=hp
    simp only [fillL] at hf
    cases hpl:place i with
    | none=>simp [hpl] at hf
    | some p =>
      obtain ⟨off,size⟩:=p
      simp only [hpl] at hf
      cases hc:(Nat.beq s.cells.length size&&Nat.ble (off+s.cells.length) cells.length) with
      | false=>rw [hc] at hf;simp at hf
      | true =>
        rw [hc] at hf
        simp only [cond_true] at hf
        simp only [Bool.and_eq_true] at hc
        have h1:=Nat.eq_of_beq_eq_true hc.1
        have h2:=Nat.le_of_ble_eq_true hc.2
        obtain ⟨hcr,_⟩:=SV.cells_ok hs hso
        have hlen:=CVs.rel_length hcr
        have hlen2:=CVs.rel_length h
        simp only [Array.length_toList] at hlen hlen2
        have hrel:CVs.rel S ι (splice cells off s.cells) (splice arr.toList off v.cells.toList):=by
          unfold splice
          rw [CVs.rel_length hcr]
          exact CVs.rel_append (CVs.rel_append (CVs.rel_take h off) hcr) (CVs.rel_drop h _)
        have harr:(v.cells.zipIdx.foldl (fun cs (p:Value×Nat)=>cs.setIfInBounds (off+p.2) p.1) arr).toList=splice arr.toList off v.cells.toList:=by
          rw [← Array.foldl_toList,Array.toList_zipIdx]
          have:=foldl_set v.cells.toList off 0 arr (by simp;omega)
          simpa [splice] using this
        obtain ⟨arr',hf',hr'⟩:=fill_rel (arr:=v.cells.zipIdx.foldl (fun cs (p:Value×Nat)=>cs.setIfInBounds (off+p.2) p.1) arr) hp (by rw [harr];exact hrel) hf
        refine ⟨arr',?_,hr'⟩
        simp only [Instr.fill,hpl]
        rw [if_neg (by simp;omega)]
        exact hf'
  | [],_::_,_,_,_,hp,_,_=>hp.elim
  | _::_,[],_,_,_,hp,_,_=>hp.elim
def structOf (P:Program) (t:TypeId):Option (List Value×List (Nat×Nat)):=
  match P.info? t,P.underlying t with
  | some it,some (.struct fields) =>
    match it.zero,fields.toList.mapM (fun f=>(P.info? f.type).map fun i=>(f.offset,i.size)) with
    | some z,some places=>some (z.cells.toList,places)
    | _,_=>none
  | _,_=>none
def evParts (σ:St):List (Nat×Operand)→Option (List (Nat×SV))
  | []=>some []
  | (i,x)::r=>match σ.ev x,evParts σ r with
    | some (.sv s),some l=>some ((i,s)::l)
    | _,_=>none
theorem evParts_rel (h:Rel n C ι σ a w):∀ {l:List (Nat×Operand)} {ps:List (Nat×SV)},evParts σ l=some ps→ps.all (fun p=>p.2.solid)=true→PartsRel σ.stat ι ps (l.map fun (i,x)=>(i,a.eval x))
  | [],ps,he,_=>by simp only [evParts,Option.some.injEq] at he;subst he;trivial
  | (i,x)::r,ps,he,hs=>by
    simp only [evParts] at he
    split at he
    · rename_i s l h1 h2
      simp only [Option.some.injEq] at he
      subst he
      simp only [List.all_cons,Bool.and_eq_true] at hs
      exact ⟨rfl,h.ev h1,hs.1,evParts_rel h h2 hs.2⟩
    · simp at he
theorem evParts_agree {σ σ':St}:∀ {l:List (Nat×Operand)},(∀ x∈l.map (·.2),σ'.ev x=σ.ev x)→evParts σ' l=evParts σ l
  | [],_=>rfl
  | (i,x)::r,h=>by
    simp only [evParts]
    rw [h x (by simp),evParts_agree fun y hy=>h y (by simp at hy ⊢;exact .inr hy)]
theorem LOK.build {d:Nat} {t:TypeId} {parts:List (Nat×Operand)} {ty:TypeId} {pos:String} {after:Array Edge} {g:Option (Nat×Bool)} {ps:List (Nat×SV)} {zs:List Value} {places:List (Nat×Nat)} {cs:List CV}
    (hst:structOf P t=some (zs,places)) (hp:evParts σ parts=some ps) (hso:ps.all (fun p=>p.2.solid)=true) (hf:fillL (fun i=>places[i]?) (zs.map .val) ps=some cs):
    LOK P n ops ⟨some d,.build t parts.toArray,ty,pos,after,g⟩ σ ⟨[(d,.sv (.agg cs))],[],[]⟩:=
  LOK.value fun σ' ha C ι a w hr=>by
    have hp':evParts σ' parts=some ps:=by
      rw [evParts_agree fun x hx=>ha.ev (by simp [Op.operands];simpa using hx)]
      exact hp
    have hrel:=evParts_rel hr hp' hso
    obtain ⟨arr',hfill,hcs⟩:=fill_rel (arr:=zs.toArray) hrel (by simpa using CVs.rel_map_val zs) hf
    refine ⟨.agg arr',?_,arr',rfl,hcs⟩
    have hb:P.built t ((parts.toArray.map fun (i,x)=>(i,a.eval x)).toList)=some arr':=by
      unfold structOf at hst
      unfold Program.built
      cases hit:P.info? t with
      | none=>simp [hit] at hst
      | some it =>
        cases hu:P.underlying t with
        | none=>simp [hit,hu] at hst
        | some dd =>
          cases dd<;>simp only [hit,hu] at hst<;>try (simp at hst;done)
          rename_i fields
          cases hz:it.zero with
          | none=>simp [hz] at hst
          | some z =>
            cases hpl:fields.toList.mapM (fun f=>(P.info? f.type).map fun i=>(f.offset,i.size)) with
            | none=>simp [hz,hpl] at hst
            | some pl =>
              simp only [hz,hpl,Option.some.injEq,Prod.mk.injEq] at hst
              obtain ⟨e1,e2⟩:=hst
              simp only
              rw [← e1,← e2] at hfill
              simp only [hz,hpl]
              simpa using hfill
    simp only [execOp,Sem.run_bind,run_build w t _ arr' hb,Result.andThen_ok,Sem.run_pure]
def arrOf (P:Program) (t:TypeId):Option (Nat×Nat):=
  match P.underlying t with
  | some (.array len e)=>(P.info? e).map fun i=>(len,i.size)
  | _=>none
def sliceOf (P:Program) (t:TypeId):Option Nat:=
  match P.underlying t with
  | some (.slice e)=>(P.info? e).map (·.size)
  | _=>none
theorem arrOf_spec {t:TypeId} {len sz:Nat} (h:arrOf P t=some (len,sz)):∃ e,P.underlying t=some (.array len e)∧∀ w,(sizeOf e).run P w = .ok sz w:=by
  unfold arrOf at h
  cases hu:P.underlying t with
  | none=>simp [hu] at h
  | some d =>
    cases d<;>simp only [hu] at h<;>try (simp at h;done)
    rename_i len' e
    cases hi:P.info? e with
    | none=>simp [hi] at h
    | some i =>
      simp only [hi,Option.map_some,Option.some.injEq,Prod.mk.injEq] at h
      obtain ⟨rfl,rfl⟩:=h
      exact ⟨e,rfl,fun w=>by simp [sizeOf,typeInfo,hi]⟩
theorem sliceOf_spec {t:TypeId} {sz:Nat} (h:sliceOf P t=some sz):∃ e,P.underlying t=some (.slice e)∧∀ w,(sizeOf e).run P w = .ok sz w:=by
  unfold sliceOf at h
  cases hu:P.underlying t with
  | none=>simp [hu] at h
  | some d =>
    cases d<;>simp only [hu] at h<;>try (simp at h;done)
    rename_i e
    cases hi:P.info? e with
    | none=>simp [hi] at h
    | some i =>
      simp only [hi,Option.map_some,Option.some.injEq] at h
      subst h
      exact ⟨e,rfl,fun w=>by simp [sizeOf,typeInfo,hi]⟩
theorem LOK.indexArr {d:Nat} {t:TypeId} {x y:Operand} {ty:TypeId} {pos:String} {after:Array Edge} {g:Option (Nat×Bool)} {k off len sz off':Nat} {kk:IntKind} {i:Int} (hx:σ.ev x=some (.sv (.one (.ptr k off)))) (hy:σ.ev y=some (.sv (.one (.val (.int kk i)))))
    (ht:arrOf P t=some (len,sz)) (hi:0≤i∧i<len) (ho:off+i.toNat*sz=off'):
    LOK P n ops ⟨some d,.indexAddr t x y,ty,pos,after,g⟩ σ ⟨[(d,.sv (.one (.ptr k off')))],[],[]⟩:=
  LOK.value fun σ' ha C ι a w hr=>by
    subst ho
    have h1:=hr.ev ((ha.ev (x:=x) (by simp [Op.operands])).trans hx)
    have h2:a.eval y = .int kk i:=hr.ev ((ha.ev (x:=y) (by simp [Op.operands])).trans hy)
    obtain ⟨e,hu,hsz⟩:=arrOf_spec ht
    have hrun:∀ b:Nat,(Instr.indexAt t (.pointer (some ⟨b,off,none⟩)) (.int kk i)).run P w = .ok (.pointer (some ⟨b,off+i.toNat*sz,none⟩)) w:=by
      intro b
      simp [Instr.indexAt,run_underlying hu,asIntOf,Instr.sureAddr,hi,hsz,addr_add]
    simp only [LV.rel,SV.rel,CV.rel] at h1 ⊢
    cases hk:σ'.stat k with
    | none=>simp [hk] at h1
    | some bb =>
      cases bb with
      | none =>
        simp only [hk] at h1 ⊢
        obtain ⟨b,h1⟩:=h1
        exact ⟨.pointer (some ⟨b,off+i.toNat*sz,none⟩),by simp only [execOp,h1,h2,Sem.run_bind,hrun,Result.andThen_ok,Sem.run_pure],b,rfl⟩
      | some b =>
        simp only [hk] at h1 ⊢
        exact ⟨_,by simp only [execOp,h1,h2,Sem.run_bind,hrun,Result.andThen_ok,Sem.run_pure],rfl⟩
theorem LOK.indexSlc {d:Nat} {t:TypeId} {x y:Operand} {ty:TypeId} {pos:String} {after:Array Edge} {g:Option (Nat×Bool)} {k off len sz off' es:Nat} {kk:IntKind} {i:Int} (hx:σ.ev x=some (.sv (.one (.slc k off len es)))) (hy:σ.ev y=some (.sv (.one (.val (.int kk i)))))
    (ht:sliceOf P t=some sz) (hi:0≤i∧i<len) (ho:off+i.toNat*sz=off'):
    LOK P n ops ⟨some d,.indexAddr t x y,ty,pos,after,g⟩ σ ⟨[(d,.sv (.one (.ptr k off')))],[],[]⟩:=
  LOK.value fun σ' ha C ι a w hr=>by
    subst ho
    have h1:=hr.ev ((ha.ev (x:=x) (by simp [Op.operands])).trans hx)
    have h2:a.eval y = .int kk i:=hr.ev ((ha.ev (x:=y) (by simp [Op.operands])).trans hy)
    obtain ⟨e,hu,hsz⟩:=sliceOf_spec ht
    have hrun:∀ b c:Nat,(Instr.indexAt t (.slice (some ⟨b,off,none⟩) len c) (.int kk i)).run P w = .ok (.pointer (some ⟨b,off+i.toNat*sz,none⟩)) w:=by
      intro b c
      simp [Instr.indexAt,run_underlying hu,asIntOf,hi,hsz,addr_add]
    simp only [LV.rel,SV.rel,CV.rel] at h1 ⊢
    cases hk:σ'.stat k with
    | none=>simp [hk] at h1
    | some bb =>
      cases bb with
      | none =>
        simp only [hk] at h1 ⊢
        obtain ⟨b,c,h1,_⟩:=h1
        exact ⟨.pointer (some ⟨b,off+i.toNat*sz,none⟩),by simp only [execOp,h1,h2,Sem.run_bind,hrun,Result.andThen_ok,Sem.run_pure],b,rfl⟩
      | some b =>
        simp only [hk] at h1 ⊢
        obtain ⟨c,h1,_⟩:=h1
        exact ⟨_,by simp only [execOp,h1,h2,Sem.run_bind,hrun,Result.andThen_ok,Sem.run_pure],rfl⟩
theorem LOK.indexX {d:Nat} {t:TypeId} {x y:Operand} {ty:TypeId} {pos:String} {after:Array Edge} {g:Option (Nat×Bool)} {b off len cap sz off':Nat} {kk:IntKind} {i:Int} (hx:σ.ev x=some (.sv (.one (.val (.slice (some ⟨b,off,none⟩) len cap))))) (hy:σ.ev y=some (.sv (.one (.val (.int kk i)))))
    (ht:sliceOf P t=some sz) (hi:0≤i∧i<len) (ho:off+i.toNat*sz=off'):
    LOK P n ops ⟨some d,.indexAddr t x y,ty,pos,after,g⟩ σ ⟨[(d,.sv (.one (.val (.pointer (some ⟨b,off',none⟩)))))],[],[]⟩:=
  LOK.value fun σ' ha C ι a w hr=>by
    subst ho
    have h1:a.eval x=_:=hr.ev ((ha.ev (x:=x) (by simp [Op.operands])).trans hx)
    have h2:a.eval y = .int kk i:=hr.ev ((ha.ev (x:=y) (by simp [Op.operands])).trans hy)
    obtain ⟨e,hu,hsz⟩:=sliceOf_spec ht
    exact ⟨_,by simp [execOp,h1,h2,Instr.indexAt,run_underlying hu,asIntOf,hi,hsz,addr_add],rfl⟩
theorem LOK.indexStr {d:Nat} {t:TypeId} {x y:Operand} {ty:TypeId} {pos:String} {after:Array Edge} {g:Option (Nat×Bool)} {s:ByteArray} {kk:IntKind} {i:Int} {b:UInt8} {r:Int} (hx:σ.ev x=some (.sv (.one (.val (.string s))))) (hy:σ.ev y=some (.sv (.one (.val (.int kk i)))))
    (ht:P.underlying t=some .string) (hi:0≤i) (hb:s[i.toNat]? = some b) (hr':(b.toNat:Int)=r):
    LOK P n ops ⟨some d,.index t x y,ty,pos,after,g⟩ σ ⟨[(d,.sv (.one (.val (.int .u8 r))))],[],[]⟩:=
  LOK.value fun σ' ha C ι a w hr=>by
    subst hr'
    have h1:a.eval x=_:=hr.ev ((ha.ev (x:=x) (by simp [Op.operands])).trans hx)
    have h2:a.eval y = .int kk i:=hr.ev ((ha.ev (x:=y) (by simp [Op.operands])).trans hy)
    exact ⟨_,by simp [execOp,h1,h2,Instr.index,run_underlying ht,asIntOf,hi,hb],rfl⟩
theorem LOK.fieldOne {d s i:Nat} {x:Operand} {ty:TypeId} {pos:String} {after:Array Edge} {g:Option (Nat×Bool)} {l:List CV} {fs:Array Field} {f:Field} {c:CV} (hx:σ.ev x=some (.sv (.agg l)))
    (hu:P.underlying s=some (.struct fs)) (hf:fs[i]? = some f) (hone:oneType P f.type=true) (hc:l[f.offset]? = some c):
    LOK P n ops ⟨some d,.field s x i,ty,pos,after,g⟩ σ ⟨[(d,.sv (.one c))],[],[]⟩:=
  LOK.value fun σ' ha C ι a w hr=>by
    obtain ⟨arr,h1,hrel⟩:=hr.ev ((ha.ev (x:=x) (by simp [Op.operands])).trans hx)
    obtain ⟨v,hv,hcr⟩:=CVs.rel_get hrel hc
    have hv':arr[f.offset]? = some v:=by simpa using hv
    exact ⟨v,by simp [execOp,h1,Instr.field,run_underlying hu,hf,asAgg,part,isAgg_one hone,hv'],hcr⟩
theorem LOK.lenStr {d:Nat} {t:TypeId} {x:Operand} {ty:TypeId} {pos:String} {after:Array Edge} {g:Option (Nat×Bool)} {s:ByteArray} {r:Int} (hx:σ.ev x=some (.sv (.one (.val (.string s))))) (ht:P.underlying t=some .string) (hr':(s.size:Int)=r):
    LOK P n ops ⟨some d,.call ⟨.builtin .len,#[x],#[t]⟩,ty,pos,after,g⟩ σ ⟨[(d,.sv (.one (.val (.int .i64 r))))],[],[]⟩:=
  LOK.value fun σ' ha C ι a w hr=>by
    subst hr'
    have h1:a.eval x=_:=hr.ev ((ha.ev (x:=x) (by simp [Op.operands,Call.operands])).trans hx)
    exact ⟨_,by simp [execOp,resolve,invoke,builtin,Builtin.len_,h1,run_underlying ht,goInt],rfl⟩
theorem LOK.lenSlc {d:Nat} {t:TypeId} {x:Operand} {ty:TypeId} {pos:String} {after:Array Edge} {g:Option (Nat×Bool)} {k off len sz es:Nat} {r:Int} (hx:σ.ev x=some (.sv (.one (.slc k off len es)))) (ht:sliceOf P t=some sz) (hr':(len:Int)=r):
    LOK P n ops ⟨some d,.call ⟨.builtin .len,#[x],#[t]⟩,ty,pos,after,g⟩ σ ⟨[(d,.sv (.one (.val (.int .i64 r))))],[],[]⟩:=
  LOK.value fun σ' ha C ι a w hr=>by
    subst hr'
    have h1:=hr.ev ((ha.ev (x:=x) (by simp [Op.operands,Call.operands])).trans hx)
    obtain ⟨e,hu,_⟩:=sliceOf_spec ht
    have hrun:∀ b c:Nat,a.eval x = .slice (some ⟨b,off,none⟩) len c→(execOp a.eval ⟨some d,.call ⟨.builtin .len,#[x],#[t]⟩,ty,pos,after,g⟩).run P w = .ok (.value (.int .i64 len)) w:=by
      intro b c h
      simp [execOp,resolve,invoke,builtin,Builtin.len_,h,run_underlying hu,goInt]
    simp only [LV.rel,SV.rel,CV.rel] at h1
    cases hk:σ'.stat k with
    | none=>simp [hk] at h1
    | some bb =>
      cases bb with
      | none=>simp only [hk] at h1;obtain ⟨b,c,h1,_⟩:=h1;exact ⟨_,hrun b c h1,rfl⟩
      | some b=>simp only [hk] at h1;obtain ⟨c,h1,_⟩:=h1;exact ⟨_,hrun _ c h1,rfl⟩
theorem LOK.lenX {d:Nat} {t:TypeId} {x:Operand} {ty:TypeId} {pos:String} {after:Array Edge} {g:Option (Nat×Bool)} {ad:Option Addr} {len cap sz:Nat} {r:Int} (hx:σ.ev x=some (.sv (.one (.val (.slice ad len cap))))) (ht:sliceOf P t=some sz) (hr':(len:Int)=r):
    LOK P n ops ⟨some d,.call ⟨.builtin .len,#[x],#[t]⟩,ty,pos,after,g⟩ σ ⟨[(d,.sv (.one (.val (.int .i64 r))))],[],[]⟩:=
  LOK.value fun σ' ha C ι a w hr=>by
    subst hr'
    have h1:a.eval x=_:=hr.ev ((ha.ev (x:=x) (by simp [Op.operands,Call.operands])).trans hx)
    obtain ⟨e,hu,_⟩:=sliceOf_spec ht
    exact ⟨_,by simp [execOp,resolve,invoke,builtin,Builtin.len_,h1,run_underlying hu,goInt],rfl⟩
def evs (σ:St):List Operand→Option (List LV)
  | []=>some []
  | x::r=>match σ.ev x,evs σ r with
    | some v,some l=>some (v::l)
    | _,_=>none
theorem evs_agree {σ σ':St}:∀ {l:List Operand},(∀ x∈l,σ'.ev x=σ.ev x)→evs σ' l=evs σ l
  | [],_=>rfl
  | x::r,h=>by
    simp only [evs]
    rw [h x (by simp),evs_agree fun y hy=>h y (by simp [hy])]
theorem evs_rel (h:Rel n C ι σ a w):∀ {l:List Operand} {lvs:List LV},evs σ l=some lvs→LVs.rel σ.stat ι lvs (l.map a.eval)
  | [],lvs,he=>by simp only [evs,Option.some.injEq] at he;subst he;trivial
  | x::r,lvs,he=>by
    simp only [evs] at he
    split at he
    · rename_i v l h1 h2
      simp only [Option.some.injEq] at he
      subst he
      exact ⟨h.ev h1,evs_rel h h2⟩
    · simp at he
theorem Rel.below (h:Rel n C ι σ a w) {w':World} (hb:Below w.heap.size w w'):Rel n C ι σ a w':=by
  have hXlt:∀ j o,σ.X j=some o→j<w.heap.size:=fun j o hj=>(Array.getElem?_eq_some_iff.1 (h.ext j o hj)).1
  exact {
    defers:=h.defers,size:=h.size,slots:=h.slots
    boxes:=fun k b hk hbk=>by
      obtain ⟨arr,fr,ha,ht,hs,hr⟩:=h.boxes k b hk hbk
      exact ⟨arr,fr,(hb.block _ (h.blocklt hk)).trans ha,ht,hs,hr⟩
    res:=by
      obtain ⟨F,hF⟩:=h.res
      exact hF.keep (fun j e cs R hj=>⟨hj,rfl⟩) (fun j o _ _ _ hj=>(hb.block _ (Array.getElem?_eq_some_iff.1 hj).1).trans hj) (fun _ _ ho=>ho) (fun _ _ hx _ _=>hx) (fun j bj hj=>.inl ⟨bj,hj,rfl⟩)
    own:=h.own,inj:=h.inj,keep:=h.keep
    ext:=fun j o hj=>(hb.block _ (hXlt j o hj)).trans (h.ext j o hj)
    frame:=fun j hj hn=>(hb.block _ (Nat.lt_of_lt_of_le hj h.big)).trans (h.frame j hj hn)
    big:=Nat.le_trans h.big hb.size
    os:=hb.os.trans h.os,tape:=hb.tape.trans h.tape,output:=hb.output.trans h.output }
theorem run_enter {f:FuncId} {args:Array Value} (h:Program.enters P f=true) (w:World):(callFunc f args).run P w = .ok (.enter f args) w:=by
  unfold Program.enters at h
  cases hf:P.funcs[f]? with
  | none=>simp [hf] at h
  | some fn =>
    simp only [hf,Bool.and_eq_true,bne_iff_ne,ne_eq] at h
    obtain ⟨h1,h2⟩:=h
    have h3:fn.body.isNone=false:=by cases hb:fn.body<;>simp_all
    have h4 : (fn.name == "runtime.NumGoroutine") = false := by simpa using h1
    simp only [callFunc,Sem.run_bind,run_program,Result.andThen_ok,hf,h3,h4,Bool.false_eq_true,if_false,Sem.run_pure]
theorem LOK.call {d:Nat} {f:FuncId} {args:List Operand} {tys:Array TypeId} {ty:TypeId} {pos:String} {after:Array Edge} {g:Option (Nat×Bool)} {lvs:List LV} {r:LV} (hargs:evs σ args=some lvs) (hcl:lvs.all LV.closed=true) (hs:PSpec P σ.X f lvs r):
    LOK P n ops ⟨some d,.call ⟨.value (.func f),args.toArray,tys⟩,ty,pos,after,g⟩ σ ⟨[(d,r)],[],[]⟩:=by
  refine ⟨fun σ' ha C ι a w hr hd next Q hn => ?_⟩
  have hargs':evs σ' args=some lvs:=by
    rw [evs_agree fun x hx=>ha.ev (by simp [Op.operands,Call.operands,hx])]
    exact hargs
  have hrel:=LVs.rel_closed (S':=noS) (ι':=fun _=>(0,0)) hcl (evs_rel hr hargs')
  have hc:=hs.out w (args.toArray.map a.eval) (fun b o hb=>hr.ext b o (by rw [ha.X];exact hb)) (by simpa using hrel)
  unfold Oper.wp
  have hrun:(execOp a.eval ⟨some d,.call ⟨.value (.func f),args.toArray,tys⟩,ty,pos,after,g⟩).run P w = .ok (.enter f (args.toArray.map a.eval)) w:=by
    simp only [execOp,resolve,Act.eval,Deferred.ofValue,invoke,Sem.run_bind,Sem.run_pure,Result.andThen_ok]
    simp [run_enter hs.enters]
  rw [hrun]
  refine hc.mono ?_
  rintro e w' ⟨v,rfl,hv,hb⟩
  exact hn ι _ w' ((hr.below hb).put (hd d rfl) (LV.rel_later (later_noS _ _ _) hv))
def slotsIn (σ:St):List (Nat×LV)→Prop
  | []=>True
  | (d,lv)::r=>σ.slot d=some lv∧slotsIn σ r
def boxesIn (σ:St):List (Nat×Option Box)→Prop
  | []=>True
  | (k,some b)::r=>σ.stat k=some (some b)∧boxesIn σ r
  | (k,none)::r=>(∃ x,σ.stat k=some x)∧boxesIn σ r
def CV.inUse (bx:List (Nat×Option Box)):CV→Bool
  | .ptr k _=>(look k bx).isSome
  | .slc k _ _ _=>(look k bx).isSome
  | .mp k=>(look k bx).isSome
  | .fn _ _ k=>(look k bx).isSome
  | .hang _ _ k=>(look k bx).isSome
  | _=>true
def SV.inUse (bx:List (Nat×Option Box)):SV→Bool
  | .one c=>c.inUse bx
  | .agg l=>l.all (CV.inUse bx)
def LV.inUse (bx:List (Nat×Option Box)):LV→Bool
  | .sv s=>s.inUse bx
  | .tup l=>l.all (SV.inUse bx)
theorem slotsIn_look {σ:St}:∀ {l:List (Nat×LV)},slotsIn σ l→∀ d lv,look d l=some lv→σ.slot d=some lv∧(d,lv)∈l
  | [],_,d,lv,h=>by simp [look] at h
  | (d',lv')::r,hs,d,lv,h=>by
    simp only [look] at h
    cases hb:Nat.beq d' d with
    | true =>
      rw [hb] at h
      simp at h
      have:=Nat.eq_of_beq_eq_true hb
      subst this h
      exact ⟨hs.1,by simp⟩
    | false =>
      rw [hb] at h
      obtain ⟨h1,h2⟩:=slotsIn_look hs.2 d lv h
      exact ⟨h1,by simp [h2]⟩
theorem boxesIn_look {σ:St}:∀ {l:List (Nat×Option Box)},boxesIn σ l→∀ k x,look k l=some x→(∀ b,x=some b→σ.stat k=some (some b))∧(∃ y,σ.stat k=some y)∧(k,x)∈l
  | [],_,k,x,h=>by simp [look] at h
  | (k',x')::r,hs,k,x,h=>by
    simp only [look] at h
    cases hb:Nat.beq k' k with
    | true =>
      rw [hb] at h
      simp at h
      have:=Nat.eq_of_beq_eq_true hb
      subst this h
      cases x' with
      | none=>exact ⟨fun b hb=>by simp at hb,hs.1,by simp⟩
      | some b=>exact ⟨fun b' hb'=>by simp at hb';subst hb';exact hs.1,⟨_,hs.1⟩,by simp⟩
    | false =>
      rw [hb] at h
      have hs2:boxesIn σ r:=by cases x' with
        | none=>exact hs.2
        | some b=>exact hs.2
      obtain ⟨h1,h2,h3⟩:=boxesIn_look hs2 k x h
      exact ⟨h1,h2,by simp [h3]⟩
section le
variable {S S':Nat→Option (Option Box)}
theorem CV.rel_less {bx:List (Nat×Option Box)} (h:∀ k x,look k bx=some x→(∀ b,x=some b→S k=some (some b))∧∃ y,S k=some y) {c:CV} (hu:c.inUse bx=true) {v:Value} (hr:c.rel S ι v):c.rel (fun k=>look k bx) ι v:=by
  cases c with
  | val u=>exact hr
  | junk=>trivial
  | ptr k off =>
    simp only [CV.inUse,Option.isSome_iff_exists] at hu
    obtain ⟨x,hx⟩:=hu
    obtain ⟨h1,y,hy⟩:=h k x hx
    simp only [CV.rel,hx] at hr ⊢
    cases x with
    | none =>
      rw [hy] at hr
      cases y with
      | none=>exact hr
      | some b=>exact ⟨_,hr⟩
    | some b=>rw [h1 b rfl] at hr;exact hr
  | slc k off m sz =>
    simp only [CV.inUse,Option.isSome_iff_exists] at hu
    obtain ⟨x,hx⟩:=hu
    obtain ⟨h1,y,hy⟩:=h k x hx
    simp only [CV.rel,hx] at hr ⊢
    cases x with
    | none =>
      rw [hy] at hr
      cases y with
      | none=>exact hr
      | some b=>obtain ⟨c,h3,h4,_⟩:=hr;exact ⟨_,c,h3,h4⟩
    | some b=>rw [h1 b rfl] at hr;exact hr
  | mp k =>
    simp only [CV.inUse,Option.isSome_iff_exists] at hu
    obtain ⟨x,hx⟩:=hu
    obtain ⟨h1,y,hy⟩:=h k x hx
    simp only [CV.rel,hx] at hr ⊢
    cases x with
    | none =>
      rw [hy] at hr
      cases y with
      | none=>exact hr
      | some b=>exact ⟨_,hr⟩
    | some b=>rw [h1 b rfl] at hr;exact hr
  | fn fi gi k =>
    simp only [CV.inUse,Option.isSome_iff_exists] at hu
    obtain ⟨x,hx⟩:=hu
    obtain ⟨h1,y,hy⟩:=h k x hx
    simp only [CV.rel,hx] at hr ⊢
    cases x with
    | none =>
      rw [hy] at hr
      cases y with
      | none=>exact hr
      | some b=>exact ⟨_,hr⟩
    | some b=>rw [h1 b rfl] at hr;exact hr
  | hang g hg k =>
    simp only [CV.inUse,Option.isSome_iff_exists] at hu
    obtain ⟨x,hx⟩:=hu
    obtain ⟨h1,y,hy⟩:=h k x hx
    simp only [CV.rel,hx] at hr ⊢
    cases x with
    | none =>
      rw [hy] at hr
      cases y with
      | none=>exact hr
      | some b=>exact ⟨_,hr⟩
    | some b=>rw [h1 b rfl] at hr;exact hr
theorem CVs.rel_less {bx:List (Nat×Option Box)} (h:∀ k x,look k bx=some x→(∀ b,x=some b→S k=some (some b))∧∃ y,S k=some y):∀ {l:List CV} {vs:List Value},l.all (CV.inUse bx)=true→CVs.rel S ι l vs→CVs.rel (fun k=>look k bx) ι l vs
  | [],[],_,_=>trivial
  | c::l,v::vs,hu,hr=>by simp only [List.all_cons,Bool.and_eq_true] at hu;exact ⟨CV.rel_less h hu.1 hr.1,CVs.rel_less h hu.2 hr.2⟩
  | [],_::_,_,hr=>hr.elim
  | _::_,[],_,hr=>hr.elim
theorem SV.rel_less {bx:List (Nat×Option Box)} (h:∀ k x,look k bx=some x→(∀ b,x=some b→S k=some (some b))∧∃ y,S k=some y) {s:SV} {v:Value} (hu:s.inUse bx=true) (hr:s.rel S ι v):s.rel (fun k=>look k bx) ι v:=by
  cases s with
  | one c=>exact CV.rel_less h hu hr
  | agg l=>obtain ⟨arr,e,hl⟩:=hr;exact ⟨arr,e,CVs.rel_less h hu hl⟩
theorem SVs.rel_less {bx:List (Nat×Option Box)} (h:∀ k x,look k bx=some x→(∀ b,x=some b→S k=some (some b))∧∃ y,S k=some y):∀ {l:List SV} {vs:List Value},l.all (SV.inUse bx)=true→SVs.rel S ι l vs→SVs.rel (fun k=>look k bx) ι l vs
  | [],[],_,_=>trivial
  | c::l,v::vs,hu,hr=>by simp only [List.all_cons,Bool.and_eq_true] at hu;exact ⟨SV.rel_less h hu.1 hr.1,SVs.rel_less h hu.2 hr.2⟩
  | [],_::_,_,hr=>hr.elim
  | _::_,[],_,hr=>hr.elim
theorem LV.rel_less {bx:List (Nat×Option Box)} (h:∀ k x,look k bx=some x→(∀ b,x=some b→S k=some (some b))∧∃ y,S k=some y) {s:LV} {v:Value} (hu:s.inUse bx=true) (hr:s.rel S ι v):s.rel (fun k=>look k bx) ι v:=by
  cases s with
  | sv s=>exact SV.rel_less h hu hr
  | tup l=>obtain ⟨arr,e,hl⟩:=hr;exact ⟨arr,e,SVs.rel_less h hu hl⟩
end le
theorem Le.of {s:List (Nat×LV)} {bx:List (Nat×Option Box)} {X:Nat→Option Obj} (hs:slotsIn σ s) (hb:boxesIn σ bx) (hX:σ.X=X)
    (hu:s.all (fun p=>p.2.inUse bx)=true) (hub:bx.all (fun p=>match p.2 with|some b=>b.cells.all (CV.inUse bx)|none=>true)=true):Le n C σ ⟨s,bx,X⟩:=by
  refine ⟨fun ι a w h => ?_⟩
  have hlk:∀ k x,look k bx=some x→(∀ b,x=some b→σ.stat k=some (some b))∧∃ y,σ.stat k=some y:=fun k x hx =>
    ⟨(boxesIn_look hb k x hx).1,(boxesIn_look hb k x hx).2.1⟩
  refine ⟨ι,{
    defers:=h.defers,size:=h.size
    slots:=fun d lv hd => ?_
    boxes:=fun k b hk hbk => ?_
    own:=fun k b hk => ?_
    inj:=fun k k' b b' hk hk' he=>h.inj k k' b b' ((hlk k _ hk).1 b rfl) ((hlk k' _ hk').1 b' rfl) he
    keep:=fun k b hk=>h.keep k b ((hlk k _ hk).1 b rfl)
    ext:=by rw [← hX];exact h.ext
    res:=by
      obtain ⟨F,hF⟩:=h.res
      rw [← hX]
      exact hF.keep (fun j e cs R hj=>⟨(hlk j _ hj).1 _ rfl,rfl⟩) (fun j o _ _ _ hj=>hj) (fun _ _ ho=>ho) (fun _ _ hx _ _=>hx) (fun j bj hj=>.inl ⟨bj,(hlk j _ hj).1 _ rfl,rfl⟩)
    frame:=h.frame,big:=h.big,os:=h.os,tape:=h.tape,output:=h.output }⟩
  · obtain ⟨h1,h2⟩:=slotsIn_look hs d lv hd
    obtain ⟨v,hv,hr⟩:=h.slots d lv h1
    exact ⟨v,hv,LV.rel_less hlk (List.all_eq_true.1 hu _ h2) hr⟩
  · have h1:=(hlk k _ hk).1 b rfl
    have h2:=(boxesIn_look hb k _ hk).2.2
    obtain ⟨arr,fr,harr,ht,hs,hr⟩:=h.boxes k b h1 hbk
    have hu':b.cells.all (CV.inUse bx)=true:=by simpa using List.all_eq_true.1 hub _ h2
    refine ⟨arr,fr,harr,ht,hs,?_⟩
    unfold Box.rel at hr ⊢
    cases hrow:b.row with
    | res R=>rw [hrow] at hr;exact hr.elim
    | bool r =>
      cases r with
      | false=>rw [hrow] at hr;exact CVs.rel_less hlk hu' hr
      | true=>rw [hrow] at hr;obtain ⟨us,sp,e,hl⟩:=hr;exact ⟨us,sp,e,CVs.rel_less hlk hu' hl⟩
  · have:=h.own k b ((hlk k _ hk).1 b rfl)
    exact ⟨this.1,by rw [← hX];exact this.2⟩
end
end Go.Lg
end
section
namespace Go.Lg
open Go Go.RowKit
class ZeroT (P:Program) (t:TypeId) (zs:outParam (List CV)):Prop where
  h:(zeroOf P t).map (fun l=>l.map CV.val)=some zs
class AggT (P:Program) (t:TypeId) (m:outParam Nat):Prop where
  h:aggSize P t=some m
class OneT (P:Program) (t:TypeId):Prop where
  h:(oneType P t,sizeIs P t)=(true,some 1)
class FieldT (P:Program) (t:TypeId) (i:Nat) (o:outParam Nat) (m:outParam Nat):Prop where
  h:fieldOf P t i=some (o,m+1)
class StructT (P:Program) (t:TypeId) (zs:outParam (List Value)) (places:outParam (List (Nat×Nat))):Prop where
  h:structOf P t=some (zs,places)
class ArrT (P:Program) (t:TypeId) (len:outParam Nat) (sz:outParam Nat):Prop where
  h:arrOf P t=some (len,sz)
class SliceT (P:Program) (t:TypeId) (sz:outParam Nat):Prop where
  h:sliceOf P t=some sz
def isStr (P:Program) (t:TypeId):Bool:=match P.underlying t with|some .string=>true|_=>false
def isBool (P:Program) (t:TypeId):Bool:=match P.underlying t with|some .bool=>true|_=>false
def intOfT (P:Program) (t:TypeId):Option IntKind:=match P.underlying t with|some (.int k)=>some k|_=>none
class StrT (P:Program) (t:TypeId):Prop where
  h:isStr P t=true
class BoolT (P:Program) (t:TypeId):Prop where
  h:isBool P t=true
class IntT (P:Program) (t:TypeId) (k:outParam IntKind):Prop where
  h:intOfT P t=some k
theorem StrT.u {P:Program} {t:TypeId} [i:StrT P t]:P.underlying t=some .string:=by
  have:=i.h
  unfold isStr at this
  split at this<;>simp_all
theorem BoolT.u {P:Program} {t:TypeId} [i:BoolT P t]:P.underlying t=some .bool:=by
  have:=i.h
  unfold isBool at this
  split at this<;>simp_all
theorem IntT.u {P:Program} {t:TypeId} {k:IntKind} [i:IntT P t k]:P.underlying t=some (.int k):=by
  have:=i.h
  unfold intOfT at this
  split at this<;>simp_all
theorem ZeroT.z {P:Program} {t:TypeId} {zs:List CV} [i:ZeroT P t zs]:∃ l,zeroOf P t=some l∧l.map CV.val=zs:=by
  have:=i.h
  cases h:zeroOf P t with
  | none=>simp [h] at this
  | some l=>simp [h] at this;exact ⟨l,rfl,this⟩
theorem nl0 {α:Type} {l:List α} (h0:l=[]):l=[]:=by
  subst_vars
  rfl
theorem nl1 {α:Type} {l t1:List α} {a0:α} (h0:l=a0::t1) (h1:t1=[]):l=[a0]:=by
  subst_vars
  rfl
theorem nl2 {α:Type} {l t1 t2:List α} {a0 a1:α} (h0:l=a0::t1) (h1:t1=a1::t2) (h2:t2=[]):l=[a0,a1]:=by
  subst_vars
  rfl
theorem nl3 {α:Type} {l t1 t2 t3:List α} {a0 a1 a2:α} (h0:l=a0::t1) (h1:t1=a1::t2) (h2:t2=a2::t3) (h3:t3=[]):l=[a0,a1,a2]:=by
  subst_vars
  rfl
theorem nl4 {α:Type} {l t1 t2 t3 t4:List α} {a0 a1 a2 a3:α} (h0:l=a0::t1) (h1:t1=a1::t2) (h2:t2=a2::t3) (h3:t3=a3::t4) (h4:t4=[]):l=[a0,a1,a2,a3]:=by
  subst_vars
  rfl
theorem nl5 {α:Type} {l t1 t2 t3 t4 t5:List α} {a0 a1 a2 a3 a4:α} (h0:l=a0::t1) (h1:t1=a1::t2) (h2:t2=a2::t3) (h3:t3=a3::t4) (h4:t4=a4::t5) (h5:t5=[]):l=[a0,a1,a2,a3,a4]:=by
  subst_vars
  rfl
theorem nl6 {α:Type} {l t1 t2 t3 t4 t5 t6:List α} {a0 a1 a2 a3 a4 a5:α} (h0:l=a0::t1) (h1:t1=a1::t2) (h2:t2=a2::t3) (h3:t3=a3::t4) (h4:t4=a4::t5) (h5:t5=a5::t6) (h6:t6=[]):l=[a0,a1,a2,a3,a4,a5]:=by
  subst_vars
  rfl
theorem nl7 {α:Type} {l t1 t2 t3 t4 t5 t6 t7:List α} {a0 a1 a2 a3 a4 a5 a6:α} (h0:l=a0::t1) (h1:t1=a1::t2) (h2:t2=a2::t3) (h3:t3=a3::t4) (h4:t4=a4::t5) (h5:t5=a5::t6) (h6:t6=a6::t7) (h7:t7=[]):l=[a0,a1,a2,a3,a4,a5,a6]:=by
  subst_vars
  rfl
inductive Want (ops:List Oper) (s:List (Nat×LV)):Option (Nat×Bool)→Prop
  | plain:Want ops s none
  | taken {j t:Nat} {b:Bool} (ht:(ops[j]?).bind (·.dst)=some t) (hb:look t s=some (.sv (.one (.val (.bool b))))):Want ops s (some (j,b))
section
variable {P:Program} {n:Nat} {ops os:List Oper} {acc:List Eff} {K:List Eff→St→Prop}
variable {s:List (Nat×LV)} {bx:List (Nat×Option Box)} {X:Nat→Option Obj}
variable {dst:Option Nat} {op:Op} {ty:TypeId} {pos:String} {after:Array Edge} {g:Option (Nat×Bool)}
theorem RunK.gen {σ:St} {o:Oper} {e:Eff} (hw:Want ops σ.slots o.guard) (h:LOK P n ops o σ e) (k:RunK P n ops os (e.app σ) (e::acc) K):RunK P n ops (o::os) σ acc K:=by
  obtain ⟨dst,op,ty,pos,after,g⟩:=o
  cases hw with
  | plain=>exact RunK.step (.plain rfl h.out) k
  | taken ht hb=>exact RunK.step (.taken _ _ _ rfl ht hb h.out) k
theorem RunK.g1 {d:Nat} {lv:LV} {ft:List Nat} (h:LOK P n ops ⟨dst,op,ty,pos,after,g⟩ ⟨s,bx,X⟩ ⟨[(d,lv)],ft,[]⟩) (hw:Want ops s g)
    (k:RunK P n ops os ⟨(d,lv)::s,bx,X⟩ (⟨[(d,lv)],ft,[]⟩::acc) K):RunK P n ops (⟨dst,op,ty,pos,after,g⟩::os) ⟨s,bx,X⟩ acc K:=RunK.gen hw h k
theorem RunK.g2 {d kk:Nat} {lv:LV} {ft:List Nat} {b:Option Box} (h:LOK P n ops ⟨dst,op,ty,pos,after,g⟩ ⟨s,bx,X⟩ ⟨[(d,lv)],ft,[(kk,b)]⟩) (hw:Want ops s g)
    (k:RunK P n ops os ⟨(d,lv)::s,(kk,b)::bx,X⟩ (⟨[(d,lv)],ft,[(kk,b)]⟩::acc) K):RunK P n ops (⟨dst,op,ty,pos,after,g⟩::os) ⟨s,bx,X⟩ acc K:=RunK.gen hw h k
theorem RunK.g3 {kk:Nat} {ft:List Nat} {b:Option Box} (h:LOK P n ops ⟨dst,op,ty,pos,after,g⟩ ⟨s,bx,X⟩ ⟨[],ft,[(kk,b)]⟩) (hw:Want ops s g)
    (k:RunK P n ops os ⟨s,(kk,b)::bx,X⟩ (⟨[],ft,[(kk,b)]⟩::acc) K):RunK P n ops (⟨dst,op,ty,pos,after,g⟩::os) ⟨s,bx,X⟩ acc K:=RunK.gen hw h k
end
section
variable {P:Program} {n:Nat} {ops:List Oper} {σ:St}
variable {d:Nat} {t t':TypeId} {x y:Operand} {ty:TypeId} {pos:String} {after:Array Edge} {g:Option (Nat×Bool)}
theorem I.alloc {el:TypeId} {zs:List CV} [ZeroT P el zs] (hk:σ.fresh d=true):
    LOK P n ops ⟨some d,.alloc el,ty,pos,after,g⟩ σ ⟨[(d,.sv (.one (.ptr d 0)))],[],[(d,some ⟨el,zs,false⟩)]⟩:=by
  obtain ⟨l,h1,h2⟩:=ZeroT.z (P:=P) (t:=el) (zs:=zs)
  exact LOK.alloc h1 hk h2
theorem I.box {el:TypeId} {l:List CV} (hx:σ.ev x=some (.sv (.agg l))) (hs:l.all CV.solid=true) (hk:σ.fresh d=true):
    LOK P n ops ⟨some d,.box el x,ty,pos,after,g⟩ σ ⟨[(d,.sv (.one (.ptr d 0)))],[],[(d,some ⟨el,l,false⟩)]⟩:=LOK.box hx hs hk rfl
theorem I.box1 {el:TypeId} {c:CV} (hx:σ.ev x=some (.sv (.one c))) (hs:c.solid=true) (hk:σ.fresh d=true):
    LOK P n ops ⟨some d,.box el x,ty,pos,after,g⟩ σ ⟨[(d,.sv (.one (.ptr d 0)))],[],[(d,some ⟨el,[c],false⟩)]⟩:=LOK.box hx hs hk rfl
theorem I.loadAll {k m:Nat} {el:TypeId} {cs:List CV} [i:AggT P t m] (hx:σ.ev x=some (.sv (.one (.ptr k 0)))) (hk:σ.stat k=some (some ⟨el,cs,false⟩)) (hm:m=cs.length):
    LOK P n ops ⟨some d,.load t x,ty,pos,after,g⟩ σ ⟨[(d,.sv (.agg cs))],[k],[]⟩:=LOK.loadAll hx hk (by rw [← hm];exact i.h)
theorem I.loadPart {k off m:Nat} {e:TypeId} {cs:List CV} {row:Bool} {l:List CV} [i:AggT P t m] (hx:σ.ev x=some (.sv (.one (.ptr k off)))) (hk:σ.stat k=some (some ⟨e,cs,row⟩)) (hm:Nat.ble (off+m) cs.length=true) (hl:(cs.drop off).take m=l):
    LOK P n ops ⟨some d,.load t x,ty,pos,after,g⟩ σ ⟨[(d,.sv (.agg l))],[k],[]⟩:=LOK.loadPart hx hk i.h (Nat.le_of_ble_eq_true hm) hl
theorem I.loadOne {k off:Nat} {e:TypeId} {cs:List CV} {row:Bool} {c:CV} [i:OneT P t] (hx:σ.ev x=some (.sv (.one (.ptr k off)))) (hk:σ.stat k=some (some ⟨e,cs,row⟩)) (hc:cs[off]? = some c):
    LOK P n ops ⟨some d,.load t x,ty,pos,after,g⟩ σ ⟨[(d,.sv (.one c))],[k],[]⟩:=LOK.loadOne hx hk (by have:=i.h;simp at this;exact this.1) hc
theorem I.storeAll {k m:Nat} {el:TypeId} {cs l:List CV} {row:Bool} [i:AggT P t m] (hx:σ.ev x=some (.sv (.one (.ptr k 0)))) (hy:σ.ev y=some (.sv (.agg l))) (hk:σ.stat k=some (some ⟨el,cs,row⟩)) (hs:l.all CV.solid=true)
    (hm:m=l.length) (hm':l.length=cs.length):
    LOK P n ops ⟨none,.store t x y,ty,pos,after,g⟩ σ ⟨[],[],[(k,some ⟨el,l,row⟩)]⟩:=by
  have hz:sizeIs P t=some (SV.agg l).cells.length:=by
    have:=i.h
    unfold aggSize at this
    unfold sizeIs
    simp only [SV.cells]
    rw [← hm]
    split at this<;>simp_all
  exact LOK.store hx hy hk hs hz (by simp [SV.cells];omega) (by simp [splice,SV.cells,hm'])
theorem I.storeOne {k off:Nat} {el:TypeId} {cs l:List CV} {c:CV} {row:Bool} [i:OneT P t] (hx:σ.ev x=some (.sv (.one (.ptr k off)))) (hy:σ.ev y=some (.sv (.one c))) (hk:σ.stat k=some (some ⟨el,cs,row⟩)) (hs:c.solid=true)
    (hm:Nat.blt off cs.length=true) (hl:cs.set off c=l):
    LOK P n ops ⟨none,.store t x y,ty,pos,after,g⟩ σ ⟨[],[],[(k,some ⟨el,l,row⟩)]⟩:=by
  have hlt:off<cs.length:=by simpa [Nat.blt_eq] using hm
  have hz:sizeIs P t=some (SV.one c).cells.length:=by have:=i.h;simp at this;simp [SV.cells,this.2]
  refine LOK.store hx hy hk hs hz (by simp [SV.cells];omega) ?_
  rw [← hl]
  simp only [splice,SV.cells,List.length_singleton]
  apply List.ext_getElem?
  intro j
  simp only [List.getElem?_append,List.length_append,List.length_take,List.length_singleton,List.getElem?_take,List.getElem?_drop,List.getElem?_set]
  rcases Nat.lt_trichotomy j off with h|h|h
  · simp [show j<min off cs.length+1 by omega,show j<min off cs.length by omega,h,show off≠j by omega]
  · subst h
    simp [show min j cs.length=j by omega,hlt]
  · simp [show min off cs.length=off by omega,show ¬ j<off+1 by omega,show off≠j by omega,show off+1+(j-(off+1))=j by omega]
theorem I.fieldAddr {i k off o m:Nat} [f:FieldT P t i o m] (hx:σ.ev x=some (.sv (.one (.ptr k off)))) {off':Nat} (ho:Nat.add off o=off'):
    LOK P n ops ⟨some d,.fieldAddr t x i,ty,pos,after,g⟩ σ ⟨[(d,.sv (.one (.ptr k off')))],[],[]⟩:=LOK.fieldAddr hx f.h ho
theorem I.build {parts:List (Nat×Operand)} {ps:List (Nat×SV)} {zs:List Value} {places:List (Nat×Nat)} {cs cs':List CV} [i:StructT P t zs places]
    (hp:evParts σ parts=some ps) (hso:ps.all (fun p=>p.2.solid)=true) (hf:fillL (fun i=>places[i]?) (zs.map .val) ps=some cs) (hn:cs=cs'):
    LOK P n ops ⟨some d,.build t parts.toArray,ty,pos,after,g⟩ σ ⟨[(d,.sv (.agg cs'))],[],[]⟩:=LOK.build i.h hp hso (by rw [← hn];exact hf)
theorem I.indexArr {k off len sz off':Nat} {kk:IntKind} {i:Int} [a:ArrT P t len sz] (hx:σ.ev x=some (.sv (.one (.ptr k off)))) (hy:σ.ev y=some (.sv (.one (.val (.int kk i))))) (hi:0≤i∧i<len) (ho:off+i.toNat*sz=off'):
    LOK P n ops ⟨some d,.indexAddr t x y,ty,pos,after,g⟩ σ ⟨[(d,.sv (.one (.ptr k off')))],[],[]⟩:=LOK.indexArr hx hy a.h hi ho
theorem I.indexSlc {k off len sz off' es:Nat} {kk:IntKind} {i:Int} [a:SliceT P t sz] (hx:σ.ev x=some (.sv (.one (.slc k off len es)))) (hy:σ.ev y=some (.sv (.one (.val (.int kk i))))) (hi:0≤i∧i<len) (ho:off+i.toNat*sz=off'):
    LOK P n ops ⟨some d,.indexAddr t x y,ty,pos,after,g⟩ σ ⟨[(d,.sv (.one (.ptr k off')))],[],[]⟩:=LOK.indexSlc hx hy a.h hi ho
theorem I.indexStr {s:ByteArray} {kk:IntKind} {i:Int} {b:UInt8} [StrT P t] (hx:σ.ev x=some (.sv (.one (.val (.string s))))) (hy:σ.ev y=some (.sv (.one (.val (.int kk i))))) (hi:0≤i) (hb:s[i.toNat]? = some b):
    LOK P n ops ⟨some d,.index t x y,ty,pos,after,g⟩ σ ⟨[(d,.sv (.one (.val (.int .u8 b.toNat))))],[],[]⟩:=LOK.indexStr hx hy StrT.u hi hb rfl
theorem I.lenStr {s:ByteArray} [StrT P t] (hx:σ.ev x=some (.sv (.one (.val (.string s))))):
    LOK P n ops ⟨some d,.call ⟨.builtin .len,#[x],#[t]⟩,ty,pos,after,g⟩ σ ⟨[(d,.sv (.one (.val (.int .i64 s.size))))],[],[]⟩:=LOK.lenStr hx StrT.u rfl
theorem I.eqlB {p q r:Bool} [BoolT P t] (hx:σ.ev x=some (.sv (.one (.val (.bool p))))) (hy:σ.ev y=some (.sv (.one (.val (.bool q))))) (hc:(p==q)=r):
    LOK P n ops ⟨some d,.binOp .eql t x y t',ty,pos,after,g⟩ σ ⟨[(d,.sv (.one (.val (.bool r))))],[],[]⟩:=LOK.eqlB hx hy BoolT.u hc
theorem I.neqB {p q r:Bool} [BoolT P t] (hx:σ.ev x=some (.sv (.one (.val (.bool p))))) (hy:σ.ev y=some (.sv (.one (.val (.bool q))))) (hc:(p != q)=r):
    LOK P n ops ⟨some d,.binOp .neq t x y t',ty,pos,after,g⟩ σ ⟨[(d,.sv (.one (.val (.bool r))))],[],[]⟩:=LOK.neqB hx hy BoolT.u hc
theorem I.conv {k k':IntKind} {a c:Int} {ks:IntKind} [i:IntT P t ks] [i':IntT P t' k'] (hx:σ.ev x=some (.sv (.one (.val (.int k a))))) (hc:k'.wrap a=c):
    LOK P n ops ⟨some d,.convert t t' x,ty,pos,after,g⟩ σ ⟨[(d,.sv (.one (.val (.int k' c))))],[],[]⟩:=LOK.conv hx (by rw [i.u];rfl) i'.u hc
end
theorem wrap_u32 {n:Int} (h:0≤n∧n<4294967296):IntKind.u32.wrap n=n:=by
  simp only [IntKind.wrap,IntKind.bits,IntKind.signed]
  simp
  omega
theorem wrap_i64 {n:Int} (h : -9223372036854775808≤n∧n<9223372036854775808):IntKind.i64.wrap n=n:=by
  simp only [IntKind.wrap,IntKind.bits,IntKind.signed]
  simp
  omega
end Go.Lg
end
section
namespace Go.Lg
open Go Go.RowKit
structure NSpec (P:Program) (f:FuncId) (args:List Value) (r:Value):Prop where
  h:∀ w,(callFunc f args.toArray).run P w = .ok (.value r) w
def plainLVs:List LV→Option (List Value)
  | []=>some []
  | .sv (.one (.val v))::r=>(plainLVs r).map (v :: ·)
  | _::_=>none
theorem plainLVs_rel {S:Nat→Option (Option Box)} {ι:Nat→Nat×Nat}:∀ {l:List LV} {vs us:List Value},plainLVs l=some vs→LVs.rel S ι l us→us=vs
  | [],vs,us,h,hr=>by
    simp only [plainLVs,Option.some.injEq] at h
    cases us with
    | nil=>exact h
    | cons=>exact hr.elim
  | lv::l,vs,us,h,hr=>by
    cases us with
    | nil=>exact hr.elim
    | cons u us =>
      cases lv with
      | tup l'=>simp [plainLVs] at h
      | sv s=>cases s with
        | agg l'=>simp [plainLVs] at h
        | one c=>cases c with
          | val v =>
            simp only [plainLVs,Option.map_eq_some_iff] at h
            obtain ⟨vs',hv,rfl⟩:=h
            obtain ⟨h1,h2⟩:=hr
            have e:=plainLVs_rel hv h2
            simp only [LV.rel,SV.rel,CV.rel] at h1
            rw [h1,e]
          | junk=>simp [plainLVs] at h
          | ptr k o=>simp [plainLVs] at h
          | slc k o m=>simp [plainLVs] at h
          | mp k=>simp [plainLVs] at h
          | fn fi gi k=>simp [plainLVs] at h
          | hang g hg k=>simp [plainLVs] at h
section
variable {P:Program} {n:Nat} {ops:List Oper} {σ:St}
end
end Go.Lg
end
section
namespace Go.Lg
open Go Go.RowKit
section
variable {P:Program} {n:Nat} {ops os:List Oper} {acc:List Eff} {K:List Eff→St→Prop} {s:List (Nat×LV)} {bx:List (Nat×Option Box)} {X:Nat→Option Obj}
theorem K.move  {d:Nat} {x:Operand} {ty:TypeId} {pos:String} {after:Array Edge} {g:Option (Nat×Bool)} {lv:LV} (hx:(⟨s,bx,X⟩:St).ev x=some lv) (hw:Want ops s g) (kont:RunK P n ops os ⟨(d,lv)::s,bx,X⟩ (⟨[(d,lv)],[],[]⟩::acc) K):
    RunK P n ops (⟨some d,.move x,ty,pos,after,g⟩::os) ⟨s,bx,X⟩ acc K:=RunK.g1 (LOK.move hx) hw kont
theorem K.assign  {d:Nat} {x:Operand} {ty:TypeId} {pos:String} {after:Array Edge} {g:Option (Nat×Bool)} {lv:LV} (hx:(⟨s,bx,X⟩:St).ev x=some lv) (hw:Want ops s g) (kont:RunK P n ops os ⟨(d,lv)::s,bx,X⟩ (⟨[(d,lv)],[],[]⟩::acc) K):
    RunK P n ops (⟨some d,.assign x,ty,pos,after,g⟩::os) ⟨s,bx,X⟩ acc K:=RunK.g1 (LOK.assign hx) hw kont
theorem K.pickT  {d:Nat} {c x y:Operand} {ty:TypeId} {pos:String} {after:Array Edge} {g:Option (Nat×Bool)} {lv:LV} (hc:(⟨s,bx,X⟩:St).ev c=some (.sv (.one (.val (.bool true))))) (hx:(⟨s,bx,X⟩:St).ev x=some lv) (hw:Want ops s g) (kont:RunK P n ops os ⟨(d,lv)::s,bx,X⟩ (⟨[(d,lv)],[],[]⟩::acc) K):
    RunK P n ops (⟨some d,.pick c x y,ty,pos,after,g⟩::os) ⟨s,bx,X⟩ acc K:=RunK.g1 (LOK.pickT hc hx) hw kont
theorem K.pickF  {d:Nat} {c x y:Operand} {ty:TypeId} {pos:String} {after:Array Edge} {g:Option (Nat×Bool)} {lv:LV} (hc:(⟨s,bx,X⟩:St).ev c=some (.sv (.one (.val (.bool false))))) (hy:(⟨s,bx,X⟩:St).ev y=some lv) (hw:Want ops s g) (kont:RunK P n ops os ⟨(d,lv)::s,bx,X⟩ (⟨[(d,lv)],[],[]⟩::acc) K):
    RunK P n ops (⟨some d,.pick c x y,ty,pos,after,g⟩::os) ⟨s,bx,X⟩ acc K:=RunK.g1 (LOK.pickF hc hy) hw kont
theorem K.extract {s0:List (Nat×LV)} {d:Nat} {x:Operand} {i:Nat} {ty:TypeId} {pos:String} {after:Array Edge} {g:Option (Nat×Bool)} {l:List SV} {s:SV} (hx:(⟨s0,bx,X⟩:St).ev x=some (.tup l)) (hi:l[i]? = some s) (hw:Want ops s0 g) (kont:RunK P n ops os ⟨(d,.sv s)::s0,bx,X⟩ (⟨[(d,.sv s)],[],[]⟩::acc) K):
    RunK P n ops (⟨some d,.extract x i,ty,pos,after,g⟩::os) ⟨s0,bx,X⟩ acc K:=RunK.g1 (LOK.extract hx hi) hw kont
theorem K.not  {d:Nat} {t:TypeId} {x:Operand} {ty:TypeId} {pos:String} {after:Array Edge} {g:Option (Nat×Bool)} {b c:Bool} (hx:(⟨s,bx,X⟩:St).ev x=some (.sv (.one (.val (.bool b))))) (hc:(!b)=c) (hw:Want ops s g) (kont:RunK P n ops os ⟨(d,.sv (.one (.val (.bool c))))::s,bx,X⟩ (⟨[(d,.sv (.one (.val (.bool c))))],[],[]⟩::acc) K):
    RunK P n ops (⟨some d,.unOp .not t x,ty,pos,after,g⟩::os) ⟨s,bx,X⟩ acc K:=RunK.g1 (LOK.not hx hc) hw kont
theorem K.neg  {d:Nat} {t:TypeId} {x:Operand} {ty:TypeId} {pos:String} {after:Array Edge} {g:Option (Nat×Bool)} {k:IntKind} {b c:Int} (hx:(⟨s,bx,X⟩:St).ev x=some (.sv (.one (.val (.int k b))))) (hc:k.wrap (0-b)=c) (hw:Want ops s g) (kont:RunK P n ops os ⟨(d,.sv (.one (.val (.int k c))))::s,bx,X⟩ (⟨[(d,.sv (.one (.val (.int k c))))],[],[]⟩::acc) K):
    RunK P n ops (⟨some d,.unOp .neg t x,ty,pos,after,g⟩::os) ⟨s,bx,X⟩ acc K:=RunK.g1 (LOK.neg hx hc) hw kont
theorem K.add {d:Nat} {t:TypeId} {t':TypeId} {x:Operand} {y:Operand} {ty:TypeId} {pos:String} {after:Array Edge} {g:Option (Nat×Bool)} {k:IntKind} {a:Int} {b:Int} {c:Int} (hx:(⟨s,bx,X⟩:St).ev x=some (.sv (.one (.val (.int k a))))) (hy:(⟨s,bx,X⟩:St).ev y=some (.sv (.one (.val (.int k b))))) (hc:k.wrap (a+b)=c) (hw:Want ops s g) (kont:RunK P n ops os ⟨(d,.sv (.one (.val (.int k c))))::s,bx,X⟩ (⟨[(d,.sv (.one (.val (.int k c))))],[],[]⟩::acc) K):
    RunK P n ops (⟨some d,.binOp .add t x y t',ty,pos,after,g⟩::os) ⟨s,bx,X⟩ acc K:=RunK.g1 (LOK.add hx hy hc) hw kont
theorem K.sub {d:Nat} {t:TypeId} {t':TypeId} {x:Operand} {y:Operand} {ty:TypeId} {pos:String} {after:Array Edge} {g:Option (Nat×Bool)} {k:IntKind} {a:Int} {b:Int} {c:Int} (hx:(⟨s,bx,X⟩:St).ev x=some (.sv (.one (.val (.int k a))))) (hy:(⟨s,bx,X⟩:St).ev y=some (.sv (.one (.val (.int k b))))) (hc:k.wrap (a-b)=c) (hw:Want ops s g) (kont:RunK P n ops os ⟨(d,.sv (.one (.val (.int k c))))::s,bx,X⟩ (⟨[(d,.sv (.one (.val (.int k c))))],[],[]⟩::acc) K):
    RunK P n ops (⟨some d,.binOp .sub t x y t',ty,pos,after,g⟩::os) ⟨s,bx,X⟩ acc K:=RunK.g1 (LOK.sub hx hy hc) hw kont
theorem K.mul {d:Nat} {t:TypeId} {t':TypeId} {x:Operand} {y:Operand} {ty:TypeId} {pos:String} {after:Array Edge} {g:Option (Nat×Bool)} {k:IntKind} {a:Int} {b:Int} {c:Int} (hx:(⟨s,bx,X⟩:St).ev x=some (.sv (.one (.val (.int k a))))) (hy:(⟨s,bx,X⟩:St).ev y=some (.sv (.one (.val (.int k b))))) (hc:k.wrap (a*b)=c) (hw:Want ops s g) (kont:RunK P n ops os ⟨(d,.sv (.one (.val (.int k c))))::s,bx,X⟩ (⟨[(d,.sv (.one (.val (.int k c))))],[],[]⟩::acc) K):
    RunK P n ops (⟨some d,.binOp .mul t x y t',ty,pos,after,g⟩::os) ⟨s,bx,X⟩ acc K:=RunK.g1 (LOK.mul hx hy hc) hw kont
theorem K.quo {d:Nat} {t:TypeId} {t':TypeId} {x:Operand} {y:Operand} {ty:TypeId} {pos:String} {after:Array Edge} {g:Option (Nat×Bool)} {k:IntKind} {a:Int} {b:Int} {c:Int} (hx:(⟨s,bx,X⟩:St).ev x=some (.sv (.one (.val (.int k a))))) (hy:(⟨s,bx,X⟩:St).ev y=some (.sv (.one (.val (.int k b))))) (hb:b≠0) (hc:k.wrap (a.tdiv b)=c) (hw:Want ops s g) (kont:RunK P n ops os ⟨(d,.sv (.one (.val (.int k c))))::s,bx,X⟩ (⟨[(d,.sv (.one (.val (.int k c))))],[],[]⟩::acc) K):
    RunK P n ops (⟨some d,.binOp .quo t x y t',ty,pos,after,g⟩::os) ⟨s,bx,X⟩ acc K:=RunK.g1 (LOK.quo hx hy hb hc) hw kont
theorem K.rem {d:Nat} {t:TypeId} {t':TypeId} {x:Operand} {y:Operand} {ty:TypeId} {pos:String} {after:Array Edge} {g:Option (Nat×Bool)} {k:IntKind} {a:Int} {b:Int} {c:Int} (hx:(⟨s,bx,X⟩:St).ev x=some (.sv (.one (.val (.int k a))))) (hy:(⟨s,bx,X⟩:St).ev y=some (.sv (.one (.val (.int k b))))) (hb:b≠0) (hc:a.tmod b=c) (hw:Want ops s g) (kont:RunK P n ops os ⟨(d,.sv (.one (.val (.int k c))))::s,bx,X⟩ (⟨[(d,.sv (.one (.val (.int k c))))],[],[]⟩::acc) K):
    RunK P n ops (⟨some d,.binOp .rem t x y t',ty,pos,after,g⟩::os) ⟨s,bx,X⟩ acc K:=RunK.g1 (LOK.rem hx hy hb hc) hw kont
theorem K.bitop {d:Nat} {t:TypeId} {t':TypeId} {x:Operand} {y:Operand} {ty:TypeId} {pos:String} {after:Array Edge} {g:Option (Nat×Bool)} {k:IntKind} {a:Int} {b:Int} {c:Int} {op:BinOp} (hop:op = .and∨op = .or∨op = .xor∨op = .andNot) (hx:(⟨s,bx,X⟩:St).ev x=some (.sv (.one (.val (.int k a))))) (hy:(⟨s,bx,X⟩:St).ev y=some (.sv (.one (.val (.int k b))))) (hc:bits op k a b=c) (hw:Want ops s g) (kont:RunK P n ops os ⟨(d,.sv (.one (.val (.int k c))))::s,bx,X⟩ (⟨[(d,.sv (.one (.val (.int k c))))],[],[]⟩::acc) K):
    RunK P n ops (⟨some d,.binOp op t x y t',ty,pos,after,g⟩::os) ⟨s,bx,X⟩ acc K:=RunK.g1 (LOK.bitop hop hx hy hc) hw kont
theorem K.shl {d:Nat} {t:TypeId} {t':TypeId} {x:Operand} {y:Operand} {ty:TypeId} {pos:String} {after:Array Edge} {g:Option (Nat×Bool)} {k:IntKind} {k':IntKind} {a:Int} {b:Int} {c:Int} (hx:(⟨s,bx,X⟩:St).ev x=some (.sv (.one (.val (.int k a))))) (hy:(⟨s,bx,X⟩:St).ev y=some (.sv (.one (.val (.int k' b))))) (hb:0≤b) (hc:k.wrap (a*2^(min b.toNat k.bits))=c) (hw:Want ops s g) (kont:RunK P n ops os ⟨(d,.sv (.one (.val (.int k c))))::s,bx,X⟩ (⟨[(d,.sv (.one (.val (.int k c))))],[],[]⟩::acc) K):
    RunK P n ops (⟨some d,.binOp .shl t x y t',ty,pos,after,g⟩::os) ⟨s,bx,X⟩ acc K:=RunK.g1 (LOK.shl hx hy hb hc) hw kont
theorem K.shr {d:Nat} {t:TypeId} {t':TypeId} {x:Operand} {y:Operand} {ty:TypeId} {pos:String} {after:Array Edge} {g:Option (Nat×Bool)} {k:IntKind} {k':IntKind} {a:Int} {b:Int} {c:Int} (hx:(⟨s,bx,X⟩:St).ev x=some (.sv (.one (.val (.int k a))))) (hy:(⟨s,bx,X⟩:St).ev y=some (.sv (.one (.val (.int k' b))))) (hb:0≤b) (hc:a.fdiv (2^(min b.toNat k.bits))=c) (hw:Want ops s g) (kont:RunK P n ops os ⟨(d,.sv (.one (.val (.int k c))))::s,bx,X⟩ (⟨[(d,.sv (.one (.val (.int k c))))],[],[]⟩::acc) K):
    RunK P n ops (⟨some d,.binOp .shr t x y t',ty,pos,after,g⟩::os) ⟨s,bx,X⟩ acc K:=RunK.g1 (LOK.shr hx hy hb hc) hw kont
theorem K.eql {d:Nat} {t:TypeId} {t':TypeId} {x:Operand} {y:Operand} {ty:TypeId} {pos:String} {after:Array Edge} {g:Option (Nat×Bool)} {k:IntKind} {a:Int} {b:Int} {r:Bool} (hx:(⟨s,bx,X⟩:St).ev x=some (.sv (.one (.val (.int k a))))) (hy:(⟨s,bx,X⟩:St).ev y=some (.sv (.one (.val (.int k b))))) (hc:(a==b)=r) (hw:Want ops s g) (kont:RunK P n ops os ⟨(d,.sv (.one (.val (.bool r))))::s,bx,X⟩ (⟨[(d,.sv (.one (.val (.bool r))))],[],[]⟩::acc) K):
    RunK P n ops (⟨some d,.binOp .eql t x y t',ty,pos,after,g⟩::os) ⟨s,bx,X⟩ acc K:=RunK.g1 (LOK.eql hx hy hc) hw kont
theorem K.neq {d:Nat} {t:TypeId} {t':TypeId} {x:Operand} {y:Operand} {ty:TypeId} {pos:String} {after:Array Edge} {g:Option (Nat×Bool)} {k:IntKind} {a:Int} {b:Int} {r:Bool} (hx:(⟨s,bx,X⟩:St).ev x=some (.sv (.one (.val (.int k a))))) (hy:(⟨s,bx,X⟩:St).ev y=some (.sv (.one (.val (.int k b))))) (hc:(a != b)=r) (hw:Want ops s g) (kont:RunK P n ops os ⟨(d,.sv (.one (.val (.bool r))))::s,bx,X⟩ (⟨[(d,.sv (.one (.val (.bool r))))],[],[]⟩::acc) K):
    RunK P n ops (⟨some d,.binOp .neq t x y t',ty,pos,after,g⟩::os) ⟨s,bx,X⟩ acc K:=RunK.g1 (LOK.neq hx hy hc) hw kont
theorem K.lss {d:Nat} {t:TypeId} {t':TypeId} {x:Operand} {y:Operand} {ty:TypeId} {pos:String} {after:Array Edge} {g:Option (Nat×Bool)} {k:IntKind} {a:Int} {b:Int} {r:Bool} (hx:(⟨s,bx,X⟩:St).ev x=some (.sv (.one (.val (.int k a))))) (hy:(⟨s,bx,X⟩:St).ev y=some (.sv (.one (.val (.int k b))))) (hc:decide (a<b)=r) (hw:Want ops s g) (kont:RunK P n ops os ⟨(d,.sv (.one (.val (.bool r))))::s,bx,X⟩ (⟨[(d,.sv (.one (.val (.bool r))))],[],[]⟩::acc) K):
    RunK P n ops (⟨some d,.binOp .lss t x y t',ty,pos,after,g⟩::os) ⟨s,bx,X⟩ acc K:=RunK.g1 (LOK.lss hx hy hc) hw kont
theorem K.leq {d:Nat} {t:TypeId} {t':TypeId} {x:Operand} {y:Operand} {ty:TypeId} {pos:String} {after:Array Edge} {g:Option (Nat×Bool)} {k:IntKind} {a:Int} {b:Int} {r:Bool} (hx:(⟨s,bx,X⟩:St).ev x=some (.sv (.one (.val (.int k a))))) (hy:(⟨s,bx,X⟩:St).ev y=some (.sv (.one (.val (.int k b))))) (hc:decide (a≤b)=r) (hw:Want ops s g) (kont:RunK P n ops os ⟨(d,.sv (.one (.val (.bool r))))::s,bx,X⟩ (⟨[(d,.sv (.one (.val (.bool r))))],[],[]⟩::acc) K):
    RunK P n ops (⟨some d,.binOp .leq t x y t',ty,pos,after,g⟩::os) ⟨s,bx,X⟩ acc K:=RunK.g1 (LOK.leq hx hy hc) hw kont
theorem K.gtr {d:Nat} {t:TypeId} {t':TypeId} {x:Operand} {y:Operand} {ty:TypeId} {pos:String} {after:Array Edge} {g:Option (Nat×Bool)} {k:IntKind} {a:Int} {b:Int} {r:Bool} (hx:(⟨s,bx,X⟩:St).ev x=some (.sv (.one (.val (.int k a))))) (hy:(⟨s,bx,X⟩:St).ev y=some (.sv (.one (.val (.int k b))))) (hc:decide (b<a)=r) (hw:Want ops s g) (kont:RunK P n ops os ⟨(d,.sv (.one (.val (.bool r))))::s,bx,X⟩ (⟨[(d,.sv (.one (.val (.bool r))))],[],[]⟩::acc) K):
    RunK P n ops (⟨some d,.binOp .gtr t x y t',ty,pos,after,g⟩::os) ⟨s,bx,X⟩ acc K:=RunK.g1 (LOK.gtr hx hy hc) hw kont
theorem K.geq {d:Nat} {t:TypeId} {t':TypeId} {x:Operand} {y:Operand} {ty:TypeId} {pos:String} {after:Array Edge} {g:Option (Nat×Bool)} {k:IntKind} {a:Int} {b:Int} {r:Bool} (hx:(⟨s,bx,X⟩:St).ev x=some (.sv (.one (.val (.int k a))))) (hy:(⟨s,bx,X⟩:St).ev y=some (.sv (.one (.val (.int k b))))) (hc:decide (b≤a)=r) (hw:Want ops s g) (kont:RunK P n ops os ⟨(d,.sv (.one (.val (.bool r))))::s,bx,X⟩ (⟨[(d,.sv (.one (.val (.bool r))))],[],[]⟩::acc) K):
    RunK P n ops (⟨some d,.binOp .geq t x y t',ty,pos,after,g⟩::os) ⟨s,bx,X⟩ acc K:=RunK.g1 (LOK.geq hx hy hc) hw kont
theorem K.strEq {d:Nat} {t:TypeId} {t':TypeId} {x:Operand} {y:Operand} {ty:TypeId} {pos:String} {after:Array Edge} {g:Option (Nat×Bool)} {r:Bool} {p q:ByteArray} (hx:(⟨s,bx,X⟩:St).ev x=some (.sv (.one (.val (.string p))))) (hy:(⟨s,bx,X⟩:St).ev y=some (.sv (.one (.val (.string q))))) (hc:(p.toList==q.toList)=r) (hw:Want ops s g) (kont:RunK P n ops os ⟨(d,.sv (.one (.val (.bool r))))::s,bx,X⟩ (⟨[(d,.sv (.one (.val (.bool r))))],[],[]⟩::acc) K):
    RunK P n ops (⟨some d,.binOp .eql t x y t',ty,pos,after,g⟩::os) ⟨s,bx,X⟩ acc K:=RunK.g1 (LOK.strEq hx hy hc) hw kont
theorem K.aggEq  {d:Nat} {t t':TypeId} {x y:Operand} {ty:TypeId} {pos:String} {after:Array Edge} {g:Option (Nat×Bool)} {l l':List CV} {us vs:List Value} {r c:Bool} {op:BinOp}
    (hx:(⟨s,bx,X⟩:St).ev x=some (.sv (.agg l))) (hy:(⟨s,bx,X⟩:St).ev y=some (.sv (.agg l'))) (hl:valsOf l=some us) (hl':valsOf l'=some vs) (hgt:P.eqGuardType P.depth t=false)
    (hrun:∀ w,(Op.equalIn 10000 t (.agg us.toArray) (.agg vs.toArray)).run P w = .ok r w) (hop:(op = .eql∧c=r)∨(op = .neq∧c = !r)) (hw:Want ops s g) (kont:RunK P n ops os ⟨(d,.sv (.one (.val (.bool c))))::s,bx,X⟩ (⟨[(d,.sv (.one (.val (.bool c))))],[],[]⟩::acc) K):
    RunK P n ops (⟨some d,.binOp op t x y t',ty,pos,after,g⟩::os) ⟨s,bx,X⟩ acc K:=RunK.g1 (LOK.aggEq hx hy hl hl' hgt hrun hop) hw kont
theorem K.loadX  {d b off:Nat} {x:Operand} {t ty:TypeId} {pos:String} {after:Array Edge} {g:Option (Nat×Bool)} {arr:Array Value} {el:TypeId} {fr:Nat×Nat} {v:Value} (hx:(⟨s,bx,X⟩:St).ev x=some (.sv (.one (.val (.pointer (some ⟨b,off,none⟩))))))
    (hX:X b=some (.cells arr el fr)) (hs:oneType P t=true) (hc:arr[off]? = some v) (hw:Want ops s g) (kont:RunK P n ops os ⟨(d,.sv (.one (.val v)))::s,bx,X⟩ (⟨[(d,.sv (.one (.val v)))],[],[]⟩::acc) K):
    RunK P n ops (⟨some d,.load t x,ty,pos,after,g⟩::os) ⟨s,bx,X⟩ acc K:=RunK.g1 (LOK.loadX hx hX hs hc) hw kont
theorem K.loadXagg  {d b off m:Nat} {x:Operand} {t ty:TypeId} {pos:String} {after:Array Edge} {g:Option (Nat×Bool)} {arr:Array Value} {el:TypeId} {fr:Nat×Nat} {l:List CV} (hx:(⟨s,bx,X⟩:St).ev x=some (.sv (.one (.val (.pointer (some ⟨b,off,none⟩))))))
    (hX:X b=some (.cells arr el fr)) (hs:aggSize P t=some m) (hm:off+m≤arr.size) (hl:((arr.toList.drop off).take m).map .val=l) (hw:Want ops s g) (kont:RunK P n ops os ⟨(d,.sv (.agg l))::s,bx,X⟩ (⟨[(d,.sv (.agg l))],[],[]⟩::acc) K):
    RunK P n ops (⟨some d,.load t x,ty,pos,after,g⟩::os) ⟨s,bx,X⟩ acc K:=RunK.g1 (LOK.loadXagg hx hX hs hm hl) hw kont
theorem K.store {s0:List (Nat×LV)} {k off:Nat} {x y:Operand} {t ty:TypeId} {pos:String} {after:Array Edge} {g:Option (Nat×Bool)} {el:TypeId} {cs:List CV} {row:Bool} {s:SV} {cs':List CV} (hx:(⟨s0,bx,X⟩:St).ev x=some (.sv (.one (.ptr k off)))) (hy:(⟨s0,bx,X⟩:St).ev y=some (.sv s))
    (hk:(⟨s0,bx,X⟩:St).stat k=some (some ⟨el,cs,row⟩)) (hs:s.solid=true) (hz:sizeIs P t=some s.cells.length) (hm:off+s.cells.length≤cs.length) (hc:splice cs off s.cells=cs') (hw:Want ops s0 g) (kont:RunK P n ops os ⟨s0,(k,some ⟨el,cs',row⟩)::bx,X⟩ (⟨[],[],[(k,some ⟨el,cs',row⟩)]⟩::acc) K):
    RunK P n ops (⟨none,.store t x y,ty,pos,after,g⟩::os) ⟨s0,bx,X⟩ acc K:=RunK.g3 (LOK.store hx hy hk hs hz hm hc) hw kont
theorem K.indexX  {d:Nat} {t:TypeId} {x y:Operand} {ty:TypeId} {pos:String} {after:Array Edge} {g:Option (Nat×Bool)} {b off len cap sz off':Nat} {kk:IntKind} {i:Int} (hx:(⟨s,bx,X⟩:St).ev x=some (.sv (.one (.val (.slice (some ⟨b,off,none⟩) len cap))))) (hy:(⟨s,bx,X⟩:St).ev y=some (.sv (.one (.val (.int kk i)))))
    (ht:sliceOf P t=some sz) (hi:0≤i∧i<len) (ho:off+i.toNat*sz=off') (hw:Want ops s g) (kont:RunK P n ops os ⟨(d,.sv (.one (.val (.pointer (some ⟨b,off',none⟩)))))::s,bx,X⟩ (⟨[(d,.sv (.one (.val (.pointer (some ⟨b,off',none⟩)))))],[],[]⟩::acc) K):
    RunK P n ops (⟨some d,.indexAddr t x y,ty,pos,after,g⟩::os) ⟨s,bx,X⟩ acc K:=RunK.g1 (LOK.indexX hx hy ht hi ho) hw kont
theorem K.fieldOne {s0:List (Nat×LV)} {d s i:Nat} {x:Operand} {ty:TypeId} {pos:String} {after:Array Edge} {g:Option (Nat×Bool)} {l:List CV} {fs:Array Field} {f:Field} {c:CV} (hx:(⟨s0,bx,X⟩:St).ev x=some (.sv (.agg l)))
    (hu:P.underlying s=some (.struct fs)) (hf:fs[i]? = some f) (hone:oneType P f.type=true) (hc:l[f.offset]? = some c) (hw:Want ops s0 g) (kont:RunK P n ops os ⟨(d,.sv (.one c))::s0,bx,X⟩ (⟨[(d,.sv (.one c))],[],[]⟩::acc) K):
    RunK P n ops (⟨some d,.field s x i,ty,pos,after,g⟩::os) ⟨s0,bx,X⟩ acc K:=RunK.g1 (LOK.fieldOne hx hu hf hone hc) hw kont
theorem K.lenSlc  {d:Nat} {t:TypeId} {x:Operand} {ty:TypeId} {pos:String} {after:Array Edge} {g:Option (Nat×Bool)} {k off len sz es:Nat} {r:Int} (hx:(⟨s,bx,X⟩:St).ev x=some (.sv (.one (.slc k off len es)))) (ht:sliceOf P t=some sz) (hr':(len:Int)=r) (hw:Want ops s g) (kont:RunK P n ops os ⟨(d,.sv (.one (.val (.int .i64 r))))::s,bx,X⟩ (⟨[(d,.sv (.one (.val (.int .i64 r))))],[],[]⟩::acc) K):
    RunK P n ops (⟨some d,.call ⟨.builtin .len,#[x],#[t]⟩,ty,pos,after,g⟩::os) ⟨s,bx,X⟩ acc K:=RunK.g1 (LOK.lenSlc hx ht hr') hw kont
theorem K.lenX  {d:Nat} {t:TypeId} {x:Operand} {ty:TypeId} {pos:String} {after:Array Edge} {g:Option (Nat×Bool)} {ad:Option Addr} {len cap sz:Nat} {r:Int} (hx:(⟨s,bx,X⟩:St).ev x=some (.sv (.one (.val (.slice ad len cap))))) (ht:sliceOf P t=some sz) (hr':(len:Int)=r) (hw:Want ops s g) (kont:RunK P n ops os ⟨(d,.sv (.one (.val (.int .i64 r))))::s,bx,X⟩ (⟨[(d,.sv (.one (.val (.int .i64 r))))],[],[]⟩::acc) K):
    RunK P n ops (⟨some d,.call ⟨.builtin .len,#[x],#[t]⟩,ty,pos,after,g⟩::os) ⟨s,bx,X⟩ acc K:=RunK.g1 (LOK.lenX hx ht hr') hw kont
theorem K.call  {d:Nat} {f:FuncId} {args:List Operand} {tys:Array TypeId} {ty:TypeId} {pos:String} {after:Array Edge} {g:Option (Nat×Bool)} {lvs:List LV} {r:LV} (hargs:evs ⟨s,bx,X⟩ args=some lvs) (hcl:lvs.all LV.closed=true) (hs:PSpec P X f lvs r) (hw:Want ops s g) (kont:RunK P n ops os ⟨(d,r)::s,bx,X⟩ (⟨[(d,r)],[],[]⟩::acc) K):
    RunK P n ops (⟨some d,.call ⟨.value (.func f),args.toArray,tys⟩,ty,pos,after,g⟩::os) ⟨s,bx,X⟩ acc K:=RunK.g1 (LOK.call hargs hcl hs) hw kont
theorem K.alloc {d:Nat} {ty:TypeId} {pos:String} {after:Array Edge} {g:Option (Nat×Bool)} {el:TypeId} {zs:List CV} [ZeroT P el zs] (hk:(⟨s,bx,X⟩:St).fresh d=true) (hw:Want ops s g) (kont:RunK P n ops os ⟨(d,.sv (.one (.ptr d 0)))::s,(d,some ⟨el,zs,false⟩)::bx,X⟩ (⟨[(d,.sv (.one (.ptr d 0)))],[],[(d,some ⟨el,zs,false⟩)]⟩::acc) K):
    RunK P n ops (⟨some d,.alloc el,ty,pos,after,g⟩::os) ⟨s,bx,X⟩ acc K:=RunK.g2 (I.alloc hk) hw kont
theorem K.box {d:Nat} {x:Operand} {ty:TypeId} {pos:String} {after:Array Edge} {g:Option (Nat×Bool)} {el:TypeId} {l:List CV} (hx:(⟨s,bx,X⟩:St).ev x=some (.sv (.agg l))) (hs:l.all CV.solid=true) (hk:(⟨s,bx,X⟩:St).fresh d=true) (hw:Want ops s g) (kont:RunK P n ops os ⟨(d,.sv (.one (.ptr d 0)))::s,(d,some ⟨el,l,false⟩)::bx,X⟩ (⟨[(d,.sv (.one (.ptr d 0)))],[],[(d,some ⟨el,l,false⟩)]⟩::acc) K):
    RunK P n ops (⟨some d,.box el x,ty,pos,after,g⟩::os) ⟨s,bx,X⟩ acc K:=RunK.g2 (I.box hx hs hk) hw kont
theorem K.box1 {d:Nat} {x:Operand} {ty:TypeId} {pos:String} {after:Array Edge} {g:Option (Nat×Bool)} {el:TypeId} {c:CV} (hx:(⟨s,bx,X⟩:St).ev x=some (.sv (.one c))) (hs:c.solid=true) (hk:(⟨s,bx,X⟩:St).fresh d=true) (hw:Want ops s g) (kont:RunK P n ops os ⟨(d,.sv (.one (.ptr d 0)))::s,(d,some ⟨el,[c],false⟩)::bx,X⟩ (⟨[(d,.sv (.one (.ptr d 0)))],[],[(d,some ⟨el,[c],false⟩)]⟩::acc) K):
    RunK P n ops (⟨some d,.box el x,ty,pos,after,g⟩::os) ⟨s,bx,X⟩ acc K:=RunK.g2 (I.box1 hx hs hk) hw kont
theorem K.loadAll {d:Nat} {t:TypeId} {x:Operand} {ty:TypeId} {pos:String} {after:Array Edge} {g:Option (Nat×Bool)} {k m:Nat} {el:TypeId} {cs:List CV} [i:AggT P t m] (hx:(⟨s,bx,X⟩:St).ev x=some (.sv (.one (.ptr k 0)))) (hk:(⟨s,bx,X⟩:St).stat k=some (some ⟨el,cs,false⟩)) (hm:m=cs.length) (hw:Want ops s g) (kont:RunK P n ops os ⟨(d,.sv (.agg cs))::s,bx,X⟩ (⟨[(d,.sv (.agg cs))],[k],[]⟩::acc) K):
    RunK P n ops (⟨some d,.load t x,ty,pos,after,g⟩::os) ⟨s,bx,X⟩ acc K:=RunK.g1 (I.loadAll hx hk hm) hw kont
theorem K.loadPart {d:Nat} {t:TypeId} {x:Operand} {ty:TypeId} {pos:String} {after:Array Edge} {g:Option (Nat×Bool)} {k off m:Nat} {e:TypeId} {cs:List CV} {row:Bool} {l:List CV} [i:AggT P t m] (hx:(⟨s,bx,X⟩:St).ev x=some (.sv (.one (.ptr k off)))) (hk:(⟨s,bx,X⟩:St).stat k=some (some ⟨e,cs,row⟩)) (hm:Nat.ble (off+m) cs.length=true) (hl:(cs.drop off).take m=l) (hw:Want ops s g) (kont:RunK P n ops os ⟨(d,.sv (.agg l))::s,bx,X⟩ (⟨[(d,.sv (.agg l))],[k],[]⟩::acc) K):
    RunK P n ops (⟨some d,.load t x,ty,pos,after,g⟩::os) ⟨s,bx,X⟩ acc K:=RunK.g1 (I.loadPart hx hk hm hl) hw kont
theorem K.loadOne {d:Nat} {t:TypeId} {x:Operand} {ty:TypeId} {pos:String} {after:Array Edge} {g:Option (Nat×Bool)} {k off:Nat} {e:TypeId} {cs:List CV} {row:Bool} {c:CV} [i:OneT P t] (hx:(⟨s,bx,X⟩:St).ev x=some (.sv (.one (.ptr k off)))) (hk:(⟨s,bx,X⟩:St).stat k=some (some ⟨e,cs,row⟩)) (hc:cs[off]? = some c) (hw:Want ops s g) (kont:RunK P n ops os ⟨(d,.sv (.one c))::s,bx,X⟩ (⟨[(d,.sv (.one c))],[k],[]⟩::acc) K):
    RunK P n ops (⟨some d,.load t x,ty,pos,after,g⟩::os) ⟨s,bx,X⟩ acc K:=RunK.g1 (I.loadOne hx hk hc) hw kont
theorem K.storeAll {t:TypeId} {x:Operand} {y:Operand} {ty:TypeId} {pos:String} {after:Array Edge} {g:Option (Nat×Bool)} {k m:Nat} {el:TypeId} {cs l:List CV} {row:Bool} [i:AggT P t m] (hx:(⟨s,bx,X⟩:St).ev x=some (.sv (.one (.ptr k 0)))) (hy:(⟨s,bx,X⟩:St).ev y=some (.sv (.agg l))) (hk:(⟨s,bx,X⟩:St).stat k=some (some ⟨el,cs,row⟩)) (hs:l.all CV.solid=true)
    (hm:m=l.length) (hm':l.length=cs.length) (hw:Want ops s g) (kont:RunK P n ops os ⟨s,(k,some ⟨el,l,row⟩)::bx,X⟩ (⟨[],[],[(k,some ⟨el,l,row⟩)]⟩::acc) K):
    RunK P n ops (⟨none,.store t x y,ty,pos,after,g⟩::os) ⟨s,bx,X⟩ acc K:=RunK.g3 (I.storeAll hx hy hk hs hm hm') hw kont
theorem K.storeOne {t:TypeId} {x:Operand} {y:Operand} {ty:TypeId} {pos:String} {after:Array Edge} {g:Option (Nat×Bool)} {k off:Nat} {el:TypeId} {cs l:List CV} {c:CV} {row:Bool} [i:OneT P t] (hx:(⟨s,bx,X⟩:St).ev x=some (.sv (.one (.ptr k off)))) (hy:(⟨s,bx,X⟩:St).ev y=some (.sv (.one c))) (hk:(⟨s,bx,X⟩:St).stat k=some (some ⟨el,cs,row⟩)) (hs:c.solid=true)
    (hm:Nat.blt off cs.length=true) (hl:cs.set off c=l) (hw:Want ops s g) (kont:RunK P n ops os ⟨s,(k,some ⟨el,l,row⟩)::bx,X⟩ (⟨[],[],[(k,some ⟨el,l,row⟩)]⟩::acc) K):
    RunK P n ops (⟨none,.store t x y,ty,pos,after,g⟩::os) ⟨s,bx,X⟩ acc K:=RunK.g3 (I.storeOne hx hy hk hs hm hl) hw kont
theorem K.fieldAddr {d:Nat} {t:TypeId} {x:Operand} {ty:TypeId} {pos:String} {after:Array Edge} {g:Option (Nat×Bool)} {i k off o m:Nat} [f:FieldT P t i o m] (hx:(⟨s,bx,X⟩:St).ev x=some (.sv (.one (.ptr k off)))) {off':Nat} (ho:Nat.add off o=off') (hw:Want ops s g) (kont:RunK P n ops os ⟨(d,.sv (.one (.ptr k off')))::s,bx,X⟩ (⟨[(d,.sv (.one (.ptr k off')))],[],[]⟩::acc) K):
    RunK P n ops (⟨some d,.fieldAddr t x i,ty,pos,after,g⟩::os) ⟨s,bx,X⟩ acc K:=RunK.g1 (I.fieldAddr hx ho) hw kont
theorem K.build {d:Nat} {t:TypeId} {ty:TypeId} {pos:String} {after:Array Edge} {g:Option (Nat×Bool)} {parts:List (Nat×Operand)} {ps:List (Nat×SV)} {zs:List Value} {places:List (Nat×Nat)} {cs cs':List CV} [i:StructT P t zs places]
    (hp:evParts ⟨s,bx,X⟩ parts=some ps) (hso:ps.all (fun p=>p.2.solid)=true) (hf:fillL (fun i=>places[i]?) (zs.map .val) ps=some cs) (hn:cs=cs') (hw:Want ops s g) (kont:RunK P n ops os ⟨(d,.sv (.agg cs'))::s,bx,X⟩ (⟨[(d,.sv (.agg cs'))],[],[]⟩::acc) K):
    RunK P n ops (⟨some d,.build t parts.toArray,ty,pos,after,g⟩::os) ⟨s,bx,X⟩ acc K:=RunK.g1 (I.build hp hso hf hn) hw kont
theorem K.indexArr {d:Nat} {t:TypeId} {x:Operand} {y:Operand} {ty:TypeId} {pos:String} {after:Array Edge} {g:Option (Nat×Bool)} {k off len sz off':Nat} {kk:IntKind} {i:Int} [a:ArrT P t len sz] (hx:(⟨s,bx,X⟩:St).ev x=some (.sv (.one (.ptr k off)))) (hy:(⟨s,bx,X⟩:St).ev y=some (.sv (.one (.val (.int kk i))))) (hi:0≤i∧i<len) (ho:off+i.toNat*sz=off') (hw:Want ops s g) (kont:RunK P n ops os ⟨(d,.sv (.one (.ptr k off')))::s,bx,X⟩ (⟨[(d,.sv (.one (.ptr k off')))],[],[]⟩::acc) K):
    RunK P n ops (⟨some d,.indexAddr t x y,ty,pos,after,g⟩::os) ⟨s,bx,X⟩ acc K:=RunK.g1 (I.indexArr hx hy hi ho) hw kont
theorem K.indexSlc {d:Nat} {t:TypeId} {x:Operand} {y:Operand} {ty:TypeId} {pos:String} {after:Array Edge} {g:Option (Nat×Bool)} {k off len sz off' es:Nat} {kk:IntKind} {i:Int} [a:SliceT P t sz] (hx:(⟨s,bx,X⟩:St).ev x=some (.sv (.one (.slc k off len es)))) (hy:(⟨s,bx,X⟩:St).ev y=some (.sv (.one (.val (.int kk i))))) (hi:0≤i∧i<len) (ho:off+i.toNat*sz=off') (hw:Want ops s g) (kont:RunK P n ops os ⟨(d,.sv (.one (.ptr k off')))::s,bx,X⟩ (⟨[(d,.sv (.one (.ptr k off')))],[],[]⟩::acc) K):
    RunK P n ops (⟨some d,.indexAddr t x y,ty,pos,after,g⟩::os) ⟨s,bx,X⟩ acc K:=RunK.g1 (I.indexSlc hx hy hi ho) hw kont
theorem K.indexStr {d:Nat} {t:TypeId} {x:Operand} {y:Operand} {ty:TypeId} {pos:String} {after:Array Edge} {g:Option (Nat×Bool)} {s0:List (Nat×LV)} {s:ByteArray} {kk:IntKind} {i:Int} {b:UInt8} [StrT P t] (hx:(⟨s0,bx,X⟩:St).ev x=some (.sv (.one (.val (.string s))))) (hy:(⟨s0,bx,X⟩:St).ev y=some (.sv (.one (.val (.int kk i))))) (hi:0≤i) (hb:s[i.toNat]? = some b) (hw:Want ops s0 g) (kont:RunK P n ops os ⟨(d,.sv (.one (.val (.int .u8 b.toNat))))::s0,bx,X⟩ (⟨[(d,.sv (.one (.val (.int .u8 b.toNat))))],[],[]⟩::acc) K):
    RunK P n ops (⟨some d,.index t x y,ty,pos,after,g⟩::os) ⟨s0,bx,X⟩ acc K:=RunK.g1 (I.indexStr hx hy hi hb) hw kont
theorem K.lenStr {d:Nat} {t:TypeId} {x:Operand} {ty:TypeId} {pos:String} {after:Array Edge} {g:Option (Nat×Bool)} {s0:List (Nat×LV)} {s:ByteArray} [StrT P t] (hx:(⟨s0,bx,X⟩:St).ev x=some (.sv (.one (.val (.string s))))) (hw:Want ops s0 g) (kont:RunK P n ops os ⟨(d,.sv (.one (.val (.int .i64 s.size))))::s0,bx,X⟩ (⟨[(d,.sv (.one (.val (.int .i64 s.size))))],[],[]⟩::acc) K):
    RunK P n ops (⟨some d,.call ⟨.builtin .len,#[x],#[t]⟩,ty,pos,after,g⟩::os) ⟨s0,bx,X⟩ acc K:=RunK.g1 (I.lenStr hx) hw kont
theorem K.eqlB {d:Nat} {t:TypeId} {t':TypeId} {x:Operand} {y:Operand} {ty:TypeId} {pos:String} {after:Array Edge} {g:Option (Nat×Bool)} {p q r:Bool} [BoolT P t] (hx:(⟨s,bx,X⟩:St).ev x=some (.sv (.one (.val (.bool p))))) (hy:(⟨s,bx,X⟩:St).ev y=some (.sv (.one (.val (.bool q))))) (hc:(p==q)=r) (hw:Want ops s g) (kont:RunK P n ops os ⟨(d,.sv (.one (.val (.bool r))))::s,bx,X⟩ (⟨[(d,.sv (.one (.val (.bool r))))],[],[]⟩::acc) K):
    RunK P n ops (⟨some d,.binOp .eql t x y t',ty,pos,after,g⟩::os) ⟨s,bx,X⟩ acc K:=RunK.g1 (I.eqlB hx hy hc) hw kont
theorem K.neqB {d:Nat} {t:TypeId} {t':TypeId} {x:Operand} {y:Operand} {ty:TypeId} {pos:String} {after:Array Edge} {g:Option (Nat×Bool)} {p q r:Bool} [BoolT P t] (hx:(⟨s,bx,X⟩:St).ev x=some (.sv (.one (.val (.bool p))))) (hy:(⟨s,bx,X⟩:St).ev y=some (.sv (.one (.val (.bool q))))) (hc:(p != q)=r) (hw:Want ops s g) (kont:RunK P n ops os ⟨(d,.sv (.one (.val (.bool r))))::s,bx,X⟩ (⟨[(d,.sv (.one (.val (.bool r))))],[],[]⟩::acc) K):
    RunK P n ops (⟨some d,.binOp .neq t x y t',ty,pos,after,g⟩::os) ⟨s,bx,X⟩ acc K:=RunK.g1 (I.neqB hx hy hc) hw kont
theorem K.conv {d:Nat} {t:TypeId} {t':TypeId} {x:Operand} {ty:TypeId} {pos:String} {after:Array Edge} {g:Option (Nat×Bool)} {k k':IntKind} {a c:Int} {ks:IntKind} [i:IntT P t ks] [i':IntT P t' k'] (hx:(⟨s,bx,X⟩:St).ev x=some (.sv (.one (.val (.int k a))))) (hc:k'.wrap a=c) (hw:Want ops s g) (kont:RunK P n ops os ⟨(d,.sv (.one (.val (.int k' c))))::s,bx,X⟩ (⟨[(d,.sv (.one (.val (.int k' c))))],[],[]⟩::acc) K):
    RunK P n ops (⟨some d,.convert t t' x,ty,pos,after,g⟩::os) ⟨s,bx,X⟩ acc K:=RunK.g1 (I.conv hx hc) hw kont
end
end Go.Lg
end
section
namespace Go.Lg.Arith
structure KInv (y1 y0 U d q r:Int):Prop where
  q0:0≤q
  r0:0≤r
  eq:q*y1+r=U
  up:U*4294967296+d<(q+1)*(y1*4294967296+y0)
structure KArg (y1 y0 U d:Int):Prop where
  a:2147483648≤y1∧y1<4294967296
  b:0≤y0∧y0<4294967296
  c:0≤U∧U<y1*4294967296+y0
  d:0≤d∧d<4294967296
variable {y1 y0 U d q r:Int}
end Go.Lg.Arith
end
section
namespace Go.Lg
open Go Go.RowKit
theorem shr_s {a:Int} {s:Nat} (hs:s≤64):a.fdiv (2^(min ((s:Int)).toNat IntKind.u64.bits))=a/2^s:=by
  have e:min ((s:Int)).toNat IntKind.u64.bits=s:=by show min ((s:Int)).toNat 64=s;omega
  rw [e]
  exact Int.fdiv_eq_ediv_of_nonneg a (Int.le_of_lt (Int.pow_pos (by decide)))
end Go.Lg
namespace Go.Lg
open Go Go.RowKit
theorem quo_i64 {a b:Int} (ha:0≤a∧a<9223372036854775808) (hb:0<b):IntKind.i64.wrap (a.tdiv b)=a/b:=by
  rw [Int.tdiv_eq_ediv_of_nonneg ha.1]
  have h1:=Int.ediv_nonneg ha.1 (Int.le_of_lt hb)
  have h2:=Int.ediv_le_self b ha.1
  exact wrap_i64 (by omega)
end Go.Lg
namespace Go.Lg
open Go Go.RowKit
theorem LWP.meet0 {P:Program} {n:Nat} {C:Ctx} {c y:Code} {Q Q':Exit→St→Prop} {σ:St} (Mid:St→Prop)
    (h:LWP P n C c (thenQ (fun σ'=>∃ σ'',Le n C σ' σ''∧Mid σ'') (fun _ _=>False)) σ) (hm:∀ σ,Mid σ→LWP P n C y Q σ):LWP P n C c (thenQ (LWP P n C y Q) Q') σ:=by
  refine h.mono ?_
  intro e σ' hq
  cases e with
  | normal =>
    obtain ⟨σ'',hle,hM⟩:=hq
    exact LWP.le hle (hm σ'' hM)
  | exit id'=>exact hq.elim
  | goto l=>exact hq.elim
  | ret=>exact hq.elim
  | panic c=>exact hq.elim
  | outgrown=>exact hq.elim
end Go.Lg
namespace Go.Lg
open Go Go.RowKit
end Go.Lg
end
