/- A piece of a proof over this program: contracts of its functions, and a logic to prove them by. -/
import Derived.Test.YtnomcmklhbjfjaaGreatDoorP2
import Derived.Test.YtnomcmklhbjfjaaGreatDoorP3
import Derived.Lib.AppendZerosOnto
import Derived.Lib.TrimByte
section
namespace Go.Lg.Fld
open Go Go.Lg
end Go.Lg.Fld
namespace Go.Proofs.YtnomcmklhbjfjaaGreatDoor
open Go Go.Lg Go.Lg.Fld
set_option maxRecDepth 100000
variable (X : Nat → Option Obj)
theorem isW_k {k : Int} (h : kK k = true) : isW (kW k : Nat) = true := by
  rcases kW_in h with e | e | e | e <;> rw [e] <;> rfl
theorem Get_q (k : Int) (l : List UInt8) (hk : kK k = true) (hn : l.length = kW k) : PSpec Tryz.prog X 82 [Ln .i64 k, Ls l] (if fitZ k (nbK k (le l)) = true then .tup [SQ (nbK k (le l)), Sn .i64 0] else .tup [S0, Sn .i64 4]) := by
  have hS := fSize_spec X k
  have hw := isW_k hk
  have hR := Read_spec X l
  have hk8 := (kfacts k).2.2.2.2
  have hN := Num_ok X l (kW k) hw (by omega) (by omega)
  rw [List.take_of_length_le (by omega), List.drop_of_length_le (by omega)] at hN
  have hb := le_lt l
  rw [hn] at hb
  have hO := numberOf_spec X k (le l) hk hb
  have hR' := nb_R hk hb
  have hD : MSpec Tryz.prog X 33 [Lp 1000000] (rd 1000000 [] false) (Lb true) (rd 1000000 [] false) := Done_spec X [] false true rfl
  have hF := Fits_q X k (nbK k (le l)) hk hR' _ rfl
  generalize nbK k (le l) = z at *
  generalize le l = n at *
  cases hf : fitZ k z with
  | true =>
    rw [hf] at hF
    rw [if_pos rfl]
    refine PSpec.intro Tryz.func82 rfl (by kernel_rfl) rfl rfl ?_
    intro C
    (refine LWP.seq <| LWP.region (by kernel_rfl) <| K.alloc rfl .plain ?_; refine kas rfl <| RunK.nil <| LWP.seq <| LWP.seq <| LWP.region (by kernel_rfl) <| kmv rfl <| kca rfl rfl (isKind_spec X k true hk) <| K.not rfl rfl .plain <| RunK.nil <| LWP.condF rfl ?_; refine LWP.skip ?_; refine LWP.seq <| LWP.region (by kernel_rfl) <| kmv rfl <| K.callMp [(1000001, 501)] (Lp 501) (rd 501 l false) (hR) rfl rfl (by exact trivial) rfl rfl rfl rfl rfl (by exact (.box rfl rfl .nil)) .plain <| kas rfl <| RunK.nil <| LWP.seq <| LWP.region (by kernel_rfl) <| kmv rfl <| kmv rfl <| kmv rfl <| kca rfl rfl (hS) <| K.callM [(1000000, 501)] (rd 501 [] false) (hN) rfl rfl (by exact (And.intro ⟨_, rfl, rfl⟩ trivial)) (by exact (all_cons_true (all_cons_true rfl (all_cons_true rfl rfl)) rfl)) rfl rfl rfl rfl (by exact (.box rfl rfl .nil)) .plain <| kca rfl rfl (hO) ?_; refine K.alloc rfl .plain ?_; refine K.storeAll rfl rfl rfl rfl rfl rfl .plain ?_; refine RunK.nil <| LWP.seq <| LWP.seq <| LWP.region (by kernel_rfl) <| kmv rfl <| K.callR [(1000000, 501)] (hD) rfl rfl (by exact (And.intro ⟨_, rfl, rfl⟩ trivial)) (by exact (all_cons_true (all_cons_true rfl (all_cons_true rfl rfl)) rfl)) rfl rfl rfl rfl .plain <| K.not rfl rfl .plain <| kmv rfl <| gmv rfl rfl rfl <| K.loadAll rfl rfl rfl (.taken rfl rfl) ?_; refine gca rfl rfl (hF) rfl rfl <| K.not rfl rfl (.taken rfl rfl) ?_; refine kpf rfl rfl <| RunK.nil <| LWP.condF rfl ?_; refine LWP.skip ?_; refine LWP.seq <| LWP.region (by kernel_rfl) <| K.loadAll rfl rfl rfl .plain ?_; refine K.storeAll rfl rfl rfl rfl rfl rfl .plain ?_; refine kas rfl <| RunK.nil <| LWP.ret ?_)
    exact ⟨[_, _], ⟨⟨_, _, rfl, rfl, rfl, .inl ⟨AggT.h, rfl⟩⟩, rfl, trivial⟩, rfl⟩
  | false =>
    rw [hf] at hF
    rw [if_neg (by simp)]
    refine PSpec.intro Tryz.func82 rfl (by kernel_rfl) rfl rfl ?_
    intro C
    (refine LWP.seq <| LWP.region (by kernel_rfl) <| K.alloc rfl .plain ?_; refine kas rfl <| RunK.nil <| LWP.seq <| LWP.seq <| LWP.region (by kernel_rfl) <| kmv rfl <| kca rfl rfl (isKind_spec X k true hk) <| K.not rfl rfl .plain <| RunK.nil <| LWP.condF rfl ?_; refine LWP.skip ?_; refine LWP.seq <| LWP.region (by kernel_rfl) <| kmv rfl <| K.callMp [(1000001, 501)] (Lp 501) (rd 501 l false) (hR) rfl rfl (by exact trivial) rfl rfl rfl rfl rfl (by exact (.box rfl rfl .nil)) .plain <| kas rfl <| RunK.nil <| LWP.seq <| LWP.region (by kernel_rfl) <| kmv rfl <| kmv rfl <| kmv rfl <| kca rfl rfl (hS) <| K.callM [(1000000, 501)] (rd 501 [] false) (hN) rfl rfl (by exact (And.intro ⟨_, rfl, rfl⟩ trivial)) (by exact (all_cons_true (all_cons_true rfl (all_cons_true rfl rfl)) rfl)) rfl rfl rfl rfl (by exact (.box rfl rfl .nil)) .plain <| kca rfl rfl (hO) ?_; refine K.alloc rfl .plain ?_; refine K.storeAll rfl rfl rfl rfl rfl rfl .plain ?_; refine RunK.nil <| LWP.seq <| LWP.seq <| LWP.region (by kernel_rfl) <| kmv rfl <| K.callR [(1000000, 501)] (hD) rfl rfl (by exact (And.intro ⟨_, rfl, rfl⟩ trivial)) (by exact (all_cons_true (all_cons_true rfl (all_cons_true rfl rfl)) rfl)) rfl rfl rfl rfl .plain <| K.not rfl rfl .plain <| kmv rfl <| gmv rfl rfl rfl <| K.loadAll rfl rfl rfl (.taken rfl rfl) ?_; refine gca rfl rfl (hF) rfl rfl <| K.not rfl rfl (.taken rfl rfl) ?_; refine kpf rfl rfl <| RunK.nil <| LWP.condT rfl ?_; refine LWP.seq <| LWP.region (by kernel_rfl) <| K.build rfl rfl (by exact rfl) (by exact nl3 rfl rfl rfl rfl) .plain ?_; refine K.storeAll rfl rfl rfl rfl rfl rfl .plain ?_; refine kas rfl <| RunK.nil <| LWP.ret ?_)
    exact ⟨[_, _], ⟨⟨_, _, rfl, rfl, rfl, .inl ⟨AggT.h, rfl⟩⟩, rfl, trivial⟩, rfl⟩
end Go.Proofs.YtnomcmklhbjfjaaGreatDoor
end
section
namespace Go.Proofs.YtnomcmklhbjfjaaGreatDoor
open Go Go.Lg Go.Lg.Fld
set_option maxRecDepth 100000
variable (X : Nat → Option Obj)
abbrev cI (b : Bool) (n : Int) : List CV := [.val (.bool b), .val (.int .u64 (n / 18446744073709551616)), .val (.int .u64 (n % 18446744073709551616))]
abbrev cQ (z : Int) : List CV := [.val (.bool (decide (z < 0))), .val (.int .u64 (mg z / 18446744073709551616)), .val (.int .u64 (mg z % 18446744073709551616))]
end Go.Proofs.YtnomcmklhbjfjaaGreatDoor
end
section
namespace Go.Lg.Dig
open Go Go.Lg
def dg (n j : Nat) : Nat := n / 256 ^ j % 256
theorem pow_pos (j : Nat) : 0 < 256 ^ j := Nat.pow_pos (by decide)
end Go.Lg.Dig
namespace Go.Lg.Dig
open Go Go.Lg
end Go.Lg.Dig
namespace Go.Lg.Dig
end Go.Lg.Dig
namespace Go.Lg.Dig
end Go.Lg.Dig
namespace Go.Lg.Dig
open Go Go.Lg
end Go.Lg.Dig
namespace Go.Lg.Dig
open Go Go.Lg
end Go.Lg.Dig
end
section
namespace Go.Proofs.YtnomcmklhbjfjaaGreatDoor
open Go Go.Lg Go.Lg.Arith Go.Lg.Dig Go.RowKit
variable (X : Nat → Option Obj)
def two (l h i : Nat) (j : Nat) : Nat := if j < i then dg l j else if 8 ≤ j ∧ j < 8 + i then dg h (j - 8) else 0
end Go.Proofs.YtnomcmklhbjfjaaGreatDoor
end
section
namespace Go.Proofs.YtnomcmklhbjfjaaGreatDoor
open Go Go.Lg Go.Lg.Arith Go.Lg.Dig Go.RowKit
variable (X : Nat → Option Obj)
end Go.Proofs.YtnomcmklhbjfjaaGreatDoor
end
section
namespace Go.Proofs.YtnomcmklhbjfjaaGreatDoor
open Go Go.Lg Go.Lg.Arith Go.Lg.Dig Go.RowKit
variable (X : Nat → Option Obj)
end Go.Proofs.YtnomcmklhbjfjaaGreatDoor
end
section
namespace Go.Proofs.YtnomcmklhbjfjaaGreatDoor
open Go Go.Lg Go.Lg.Arith Go.Lg.Dig Go.RowKit
variable (X : Nat → Option Obj)
end Go.Proofs.YtnomcmklhbjfjaaGreatDoor
end
section
namespace Go.Lg.Fld
open Go Go.Lg
abbrev tabW : List CV := [.val (.int .i64 0), .val (.int .i64 1), .val (.int .i64 1), .val (.int .i64 2), .val (.int .i64 4), .val (.int .i64 8), .val (.int .i64 1), .val (.int .i64 2), .val (.int .i64 4), .val (.int .i64 8), .val (.int .i64 8)]
theorem tabW_at {k : Int} (h : kK k = true) : tabW[0 + k.toNat * 1]? = some (.val (.int .i64 (kW k : Nat))) := by
  rcases kin h with rfl | rfl | rfl | rfl | rfl | rfl | rfl | rfl | rfl | rfl <;> rfl
end Go.Lg.Fld
namespace Go.Proofs.YtnomcmklhbjfjaaGreatDoor
open Go Go.Lg Go.Lg.Fld
set_option maxRecDepth 100000
variable (X : Nat → Option Obj)
instance : ArrB Tryz.prog 130 (List.replicate 11 (.int .i64 0)) 1 := ⟨by kernel_rfl⟩
instance : ArrB Tryz.prog 172 (List.replicate 11 (.int .u64 0)) 1 := ⟨by kernel_rfl⟩
theorem refBytes_spec (k : Int) : PSpec Tryz.prog X 53 [Ln .i64 k] (Ln .i64 (kW k : Nat)) := by
  refine PSpec.intro Tryz.func53 rfl (by kernel_rfl) rfl rfl ?_
  intro C
  cases hk : kK k with
  | false =>
    rcases knot hk with h | h
    · rw [kW_no (.inl h)]
      (refine LWP.seq <| LWP.region (by kernel_rfl) <| kas rfl <| RunK.nil <| LWP.seq <| LWP.seq <| LWP.region (by kernel_rfl) <| kmv rfl <| klt rfl rfl (decide_eq_true (by omega)) <| kmv rfl <| RunK.passed rfl rfl rfl <| RunK.passed rfl rfl rfl <| kpt rfl rfl <| RunK.nil ?_; refine LWP.condT rfl ?_; refine LWP.seq <| LWP.region (by kernel_rfl) <| kas rfl <| RunK.nil <| LWP.ret ?_)
      exact ⟨[_], ⟨rfl, trivial⟩, rfl⟩
    · rw [kW_no (.inr h)]
      (refine LWP.seq <| LWP.region (by kernel_rfl) <| kas rfl <| RunK.nil <| LWP.seq <| LWP.seq <| LWP.region (by kernel_rfl) <| kmv rfl <| klt rfl rfl (decide_eq_false (by omega)) <| kmv rfl <| gmv rfl rfl rfl <| K.gtr rfl rfl (decide_eq_true (by omega)) (.taken rfl rfl) ?_; refine kpf rfl rfl <| RunK.nil <| LWP.condT rfl ?_; refine LWP.seq <| LWP.region (by kernel_rfl) <| kas rfl <| RunK.nil <| LWP.ret ?_)
      exact ⟨[_], ⟨rfl, trivial⟩, rfl⟩
  | true =>
    have hb := (kK_iff k).1 hk
    (refine LWP.seq <| LWP.region (by kernel_rfl) <| kas rfl <| RunK.nil <| LWP.seq <| LWP.seq <| LWP.region (by kernel_rfl) <| kmv rfl <| klt rfl rfl (decide_eq_false (by omega)) <| kmv rfl <| gmv rfl rfl rfl <| K.gtr rfl rfl (decide_eq_false (by omega)) (.taken rfl rfl) ?_; refine kpf rfl rfl <| RunK.nil <| LWP.condF rfl ?_; refine LWP.skip ?_; refine LWP.seq <| LWP.region (by kernel_rfl) <| K.buildArr (cs' := tabW) rfl rfl (by exact rfl) rfl .plain ?_; refine K.alloc rfl .plain ?_; refine K.storeAll rfl rfl rfl rfl rfl rfl .plain ?_; refine RunK.nil <| LWP.seq <| LWP.region (by kernel_rfl) <| kmv rfl <| K.indexArr rfl rfl (by omega) rfl .plain ?_; refine kl1 rfl rfl (tabW_at hk) <| kas rfl <| RunK.nil <| LWP.ret ?_)
    exact ⟨[_], ⟨rfl, trivial⟩, rfl⟩
end Go.Proofs.YtnomcmklhbjfjaaGreatDoor
end
section
namespace Go.Lg.Fld
open Go Go.Lg
end Go.Lg.Fld
namespace Go.Proofs.YtnomcmklhbjfjaaGreatDoor
open Go Go.Lg Go.Lg.Fld
set_option maxRecDepth 100000
variable (X : Nat → Option Obj)
end Go.Proofs.YtnomcmklhbjfjaaGreatDoor
end
section
namespace Go.Lg.Fld
open Go Go.Lg
end Go.Lg.Fld
namespace Go.Proofs.YtnomcmklhbjfjaaGreatDoor
open Go Go.Lg Go.Lg.Fld
set_option maxRecDepth 100000
variable (X : Nat → Option Obj)
end Go.Proofs.YtnomcmklhbjfjaaGreatDoor
end
section
namespace Go.Lg.Fld
open Go Go.Lg
structure Fl where
  nm : List UInt8
  kind : Int
  count : Int
def Fl.vals (f : Fl) : List Value := [.string ⟨f.nm.toArray⟩, .int .i64 f.kind, .int .i64 f.count]
def Fl.w (f : Fl) : Nat := kW f.kind
def Fl.n (f : Fl) : Nat := f.count.toNat
def Fl.ok (f : Fl) : Bool := kK f.kind && (decide (1 ≤ f.count) && decide (f.count ≤ 8))
def roundUp (a n : Nat) : Nat := a + (n - a % n) % n
def startsAt : Nat → List Fl → List Nat
  | _, [] => []
  | a, f :: t => roundUp a f.w :: startsAt (roundUp a f.w + f.w * f.n) t
def endAt : Nat → List Fl → Nat
  | a, [] => a
  | a, f :: t => endAt (roundUp a f.w + f.w * f.n) t
def elemsAt : Nat → List Fl → List (Int × Nat)
  | _, [] => []
  | a, f :: t => (List.range f.n).map (fun i => (f.kind, roundUp a f.w + f.w * i)) ++ elemsAt (roundUp a f.w + f.w * f.n) t
def greatW (l : List Fl) : Nat := l.foldl (fun g f => max g f.w) 1
def rowSize (l : List Fl) : Nat := roundUp (endAt 0 l) (greatW l)
def layErr (l : List Fl) : Int := if 8 < l.length then 1 else if l.all Fl.ok = true then (if 256 < rowSize l then 5 else 0) else 1
theorem starts_snoc (f : Fl) : ∀ (l : List Fl) (a : Nat), startsAt a (l ++ [f]) = startsAt a l ++ [roundUp (endAt a l) f.w]
  | [], _ => rfl
  | g :: t, a => by simp only [List.cons_append, startsAt, endAt, starts_snoc f t]
theorem end_snoc (f : Fl) : ∀ (l : List Fl) (a : Nat), endAt a (l ++ [f]) = roundUp (endAt a l) f.w + f.w * f.n
  | [], _ => rfl
  | g :: t, a => by simp only [List.cons_append, endAt, end_snoc f t]
theorem elems_snoc (f : Fl) : ∀ (l : List Fl) (a : Nat), elemsAt a (l ++ [f]) = elemsAt a l ++ (List.range f.n).map (fun i => (f.kind, roundUp (endAt a l) f.w + f.w * i))
  | [], _ => by simp [elemsAt, endAt]
  | g :: t, a => by simp only [List.cons_append, elemsAt, endAt, elems_snoc f t, List.append_assoc]
theorem great_snoc (f : Fl) (l : List Fl) : greatW (l ++ [f]) = max (greatW l) f.w := by simp [greatW, List.foldl_append]
theorem take_snoc {α : Type} {l : List α} {i : Nat} {f : α} (h : l[i]? = some f) : l.take (i + 1) = l.take i ++ [f] := by
  rw [List.take_add_one, h]; rfl
theorem ok_w {f : Fl} (h : f.ok = true) : (f.w = 1 ∨ f.w = 2 ∨ f.w = 4 ∨ f.w = 8) ∧ 1 ≤ f.n ∧ f.n ≤ 8 ∧ (f.n : Int) = f.count := by
  simp only [Fl.ok, Bool.and_eq_true, decide_eq_true_eq] at h
  refine ⟨kW_in h.1, ?_, ?_, ?_⟩ <;> unfold Fl.n <;> omega
def isWd (n : Nat) : Prop := n = 1 ∨ n = 2 ∨ n = 4 ∨ n = 8
theorem round_facts {n : Nat} (h : isWd n) (a : Nat) : roundUp a n % n = 0 ∧ a ≤ roundUp a n ∧ roundUp a n < a + n ∧ ∀ b, a ≤ b → b ≤ roundUp a n → b % n = 0 → b = roundUp a n := by
  unfold roundUp
  rcases h with rfl | rfl | rfl | rfl <;> refine ⟨by omega, by omega, by omega, fun b h1 h2 h3 => by omega⟩
theorem great_wd : ∀ (l : List Fl), l.all Fl.ok = true → isWd (greatW l) := by
  have key : ∀ (l : List Fl) (g : Nat), isWd g → l.all Fl.ok = true → isWd (l.foldl (fun g f => max g f.w) g) := by
    intro l
    induction l with
    | nil => intro g hg _; exact hg
    | cons f t ih =>
      intro g hg h
      simp only [List.all_cons, Bool.and_eq_true] at h
      refine ih _ ?_ h.2
      have hf : isWd f.w := (ok_w h.1).1
      show isWd (max g f.w)
      rcases Nat.le_total g f.w with h3 | h3
      · rw [Nat.max_eq_right h3]; exact hf
      · rw [Nat.max_eq_left h3]; exact hg
  exact fun l h => key l 1 (.inl rfl) h
theorem end_le : ∀ (l : List Fl) (a : Nat), l.all Fl.ok = true → a ≤ endAt a l ∧ endAt a l ≤ a + 72 * l.length
  | [], a, _ => by simp [endAt]
  | f :: t, a, h => by
    simp only [List.all_cons, Bool.and_eq_true] at h
    obtain ⟨hw, h1, h8, _⟩ := ok_w h.1
    have hr := round_facts hw a
    have hi := end_le t (roundUp a f.w + f.w * f.n) h.2
    have hm : f.w * f.n ≤ 64 := by rcases hw with e | e | e | e <;> rw [e] <;> omega
    have hw8 : f.w ≤ 8 := by rcases hw with e | e | e | e <;> omega
    simp only [endAt, List.length_cons]
    omega
theorem elems_len : ∀ (l : List Fl) (a : Nat), l.all Fl.ok = true → l.length ≤ (elemsAt a l).length ∧ (elemsAt a l).length ≤ 8 * l.length
  | [], a, _ => by simp [elemsAt]
  | f :: t, a, h => by
    simp only [List.all_cons, Bool.and_eq_true] at h
    obtain ⟨hw, h1, h8, _⟩ := ok_w h.1
    have hi := elems_len t (roundUp a f.w + f.w * f.n) h.2
    simp only [elemsAt, List.length_append, List.length_map, List.length_range, List.length_cons]
    omega
theorem starts_len : ∀ (l : List Fl) (a : Nat), (startsAt a l).length = l.length
  | [], _ => rfl
  | f :: t, a => by simp [startsAt, starts_len t]
def elV (e : Int × Nat) : List Value := [.int .i64 e.1, .int .i64 (e.2 : Nat)]
def elVs (l : List (Int × Nat)) : List Value := (l.map elV).flatten
theorem elVs_len (l : List (Int × Nat)) : (elVs l).length = l.length * 2 := by
  induction l with
  | nil => rfl
  | cons e t ih => simp only [elVs, List.map_cons, List.flatten_cons, List.length_append] at ih ⊢; rw [ih]; simp [elV]; omega
theorem elVs_app (l m : List (Int × Nat)) : elVs (l ++ m) = elVs l ++ elVs m := by simp [elVs]
def ntV (l : List Nat) : List Value := l.map fun n => .int .i64 (n : Nat)
structure FieldsIn (X : Nat → Option Obj) (ad : Option Addr) (fs : List Fl) : Prop where
  rows : RowsIn X ad 3 (fs.map Fl.vals)
  small : ∀ f ∈ fs, (-9223372036854775808 ≤ f.kind ∧ f.kind < 9223372036854775808) ∧ (-9223372036854775808 ≤ f.count ∧ f.count < 9223372036854775808)
theorem FieldsIn.at {X : Nat → Option Obj} {ad : Option Addr} {fs : List Fl} (h : FieldsIn X ad fs) {i : Nat} {f : Fl} (hf : fs[i]? = some f) :
    ∃ (blk off : Nat) (arr : Array Value) (el : TypeId) (fr : Nat × Nat), ad = some ⟨blk, off, none⟩ ∧ X blk = some (.cells arr el fr) ∧ off + i * 3 + 3 ≤ arr.size ∧ ((arr.toList.drop (off + i * 3)).take 3).map CV.val = f.vals.map CV.val := by
  obtain ⟨blk, off, arr, el, fr, h1, h2, h3, h4⟩ := h.rows i f.vals (by rw [List.getElem?_map, hf]; rfl)
  exact ⟨blk, off, arr, el, fr, h1, h2, h3, by rw [h4]⟩
end Go.Lg.Fld
end
section
namespace Go.Proofs.YtnomcmklhbjfjaaGreatDoor
open Go Go.Lg Go.Lg.Fld
set_option maxRecDepth 100000
variable (X : Nat → Option Obj)
abbrev Lx (ad : Option Addr) (n cap : Nat) : LV := .sv (.one (.val (.slice ad n cap)))
abbrev Vnil : SV := .one (.val (.slice none 0 0))
def layR (fs : List Fl) : LV := if layErr fs = 0 then .tup [.one (.slc 1000001 0 (elemsAt 0 fs).length 2), Sn .i64 (rowSize fs : Nat), .one (.slc 1000002 0 fs.length 1), Sn .i64 0] else .tup [Vnil, Sn .i64 0, Vnil, Sn .i64 (layErr fs)]
def layBx (fs : List Fl) : List (Nat × Option Box) := if layErr fs = 0 then [(1000001, some ⟨106, (elVs (elemsAt 0 fs)).map .val, Nat.blt 0 (elemsAt 0 fs).length⟩), (1000002, some ⟨3, (ntV (startsAt 0 fs)).map .val, Nat.blt 0 fs.length⟩)] else []
theorem layErr_long {fs : List Fl} (h : 8 < fs.length) : layErr fs = 1 := if_pos h
theorem layErr_bad {fs : List Fl} (h : fs.length ≤ 8) {f : Fl} (hf : f ∈ fs) (hb : f.ok = false) : layErr fs = 1 := by
  unfold layErr
  rw [if_neg (by omega), if_neg]
  intro ha
  rw [List.all_eq_true.1 ha f hf] at hb
  cases hb
theorem layErr_all {fs : List Fl} (h : fs.length ≤ 8) (ha : fs.all Fl.ok = true) : layErr fs = if 256 < rowSize fs then 5 else 0 := by
  unfold layErr
  rw [if_neg (by omega), if_pos ha]
theorem take_all {fs : List Fl} {i : Nat} {f : Fl} (h : (fs.take i).all Fl.ok = true) (hf : fs[i]? = some f) (hk : f.ok = true) : (fs.take (i + 1)).all Fl.ok = true := by
  rw [take_snoc hf, List.all_append, h]
  simp [hk]
set_option maxHeartbeats 3200000 in
theorem Lay_spec (ad : Option Addr) (cap : Nat) (fs : List Fl) (hin : FieldsIn X ad fs) (hbig : fs.length < 4611686018427387904) : MSpec Tryz.prog X 28 [Lx ad fs.length cap] [] (layR fs) (layBx fs) := by
  refine MSpec.intro Tryz.func28 rfl (by kernel_rfl) rfl (by unfold layR layBx; split <;> rfl) (by unfold layBx; split <;> exact (by repeat' (first | refine all_cons_true ?_ ?_ | rfl | exact bytes_inUse | exact vals_inUse | exact mid_inUse rfl))) rfl rfl ?_
  intro C
  by_cases hlong : 8 < fs.length
  · unfold layR layBx
    rw [layErr_long hlong, if_neg (by decide), if_neg (by decide)]
    (refine LWP.seq <| LWP.region (by kernel_rfl) <| kas rfl <| kas rfl <| kas rfl <| kas rfl <| RunK.nil <| LWP.seq <| LWP.seq <| LWP.region (by kernel_rfl) <| kmv rfl <| K.lenX rfl SliceT.h rfl .plain ?_; refine K.gtr rfl rfl (decide_eq_true (by omega)) .plain <| RunK.nil <| LWP.condT rfl ?_; refine LWP.seq <| LWP.region (by kernel_rfl) <| kas rfl <| kas rfl <| kas rfl <| kas rfl <| RunK.nil <| LWP.ret ?_)
    exact ⟨[], ⟨[_, _, _, _], ⟨rfl, rfl, rfl, rfl, trivial⟩, rfl⟩, trivial, rfl, rfl⟩
  have h8 : fs.length ≤ 8 := by omega
  (refine LWP.seq <| LWP.region (by kernel_rfl) <| kas rfl <| kas rfl <| kas rfl <| kas rfl <| RunK.nil <| LWP.seq <| LWP.seq <| LWP.region (by kernel_rfl) <| kmv rfl <| K.lenX rfl SliceT.h rfl .plain ?_; refine K.gtr rfl rfl (decide_eq_false (by omega)) .plain <| RunK.nil <| LWP.condF rfl ?_; refine LWP.skip ?_; refine LWP.seq <| LWP.region (by kernel_rfl) <| K.buildSlc (zs := []) (sz := 2) (e := 106) (by kernel_rfl) rfl rfl rfl rfl rfl rfl .plain <| kas rfl <| RunK.nil <| LWP.seq <| LWP.region (by kernel_rfl) <| K.buildSlc (zs := []) (sz := 1) (e := 3) (by kernel_rfl) rfl rfl rfl rfl rfl rfl .plain <| kas rfl <| RunK.nil <| LWP.seq <| LWP.region (by kernel_rfl) <| kas rfl <| RunK.nil ?_; refine LWP.seq <| LWP.region (by kernel_rfl) <| kas rfl <| RunK.nil <| LWP.seq <| LWP.seq <| LWP.region (by kernel_rfl) <| kas rfl <| RunK.nil <| LWP.block ?_)
  refine LWP.loop (fun m σ => ∃ i : Nat, i ≤ fs.length ∧ m = fs.length - i ∧ (fs.take i).all Fl.ok = true ∧ σ = ⟨[(0, Lx ad fs.length cap), (6, .sv (.one (.slc 500 0 (elemsAt 0 (fs.take i)).length 2))), (7, .sv (.one (.slc 501 0 i 1))), (8, Ln .i64 (endAt 0 (fs.take i) : Nat)), (9, Ln .i64 (greatW (fs.take i) : Nat)), (10, Ln .i64 (i : Nat))], [(500, some ⟨106, (elVs (elemsAt 0 (fs.take i))).map .val, Nat.blt 0 (elemsAt 0 (fs.take i)).length⟩), (501, some ⟨3, (ntV (startsAt 0 (fs.take i))).map .val, Nat.blt 0 i⟩)], X⟩) fs.length
    ⟨_, Le.ofR [(500, 17), (501, 18)] (by exact ⟨rfl, rfl, rfl, rfl, rfl, rfl, trivial⟩) (by repeat' (first | exact trivial | refine And.intro ⟨_, rfl, ?_⟩ ?_ | refine And.intro ⟨_, rfl⟩ ?_ | rfl | exact Box.ren_bytes _ _ _ _ | exact Box.ren_vals _ _ _ _ | exact Box.ren_mid rfl)) (by exact rfl) (by exact rfl) (by repeat' (first | refine all_cons_true ?_ ?_ | rfl | exact bytes_inUse | exact vals_inUse | exact mid_inUse rfl)) (by exact rfl) (by exact rfl), 0, by omega, by omega, rfl, rfl⟩ ?_
  rintro m σ ⟨i, hi, rfl, hall, rfl⟩
  have hEl := elems_len (fs.take i) 0 hall
  have hSl := starts_len (fs.take i) 0
  have hend := end_le (fs.take i) 0 hall
  have hgw := great_wd (fs.take i) hall
  have htl : (fs.take i).length = i := by rw [List.length_take]; omega
  rw [htl] at hEl hSl hend
  by_cases hlt : i < fs.length
  · obtain ⟨f, hf⟩ : ∃ f, fs[i]? = some f := ⟨_, List.getElem?_eq_getElem hlt⟩
    obtain ⟨blk, off, arr, el, fr, rfl, hX, hsz, hcells⟩ := hin.at hf
    have hio : off + Int.toNat (i : Int) * 3 = off + i * 3 := by simp
    have hmem : f ∈ fs := List.mem_of_getElem? hf
    have hsm := hin.small f hmem
    have hB := refBytes_spec X f.kind
    have hE : elemsAt 0 (fs.take (i + 1)) = elemsAt 0 (fs.take i) ++ (List.range f.n).map (fun j => (f.kind, roundUp (endAt 0 (fs.take i)) f.w + f.w * j)) := by rw [take_snoc hf, elems_snoc]
    have hS : startsAt 0 (fs.take (i + 1)) = startsAt 0 (fs.take i) ++ [roundUp (endAt 0 (fs.take i)) f.w] := by rw [take_snoc hf, starts_snoc]
    have hA : endAt 0 (fs.take (i + 1)) = roundUp (endAt 0 (fs.take i)) f.w + f.w * f.n := by rw [take_snoc hf, end_snoc]
    have hG : greatW (fs.take (i + 1)) = max (greatW (fs.take i)) f.w := by rw [take_snoc hf, great_snoc]
    cases hok : f.ok with
    | false =>
      have hbad := layErr_bad h8 hmem hok
      unfold layR layBx
      rw [hbad, if_neg (by decide), if_neg (by decide)]
      clear hE hS hA hG
      generalize elemsAt 0 (fs.take i) = E at *
      generalize startsAt 0 (fs.take i) = S at *
      generalize endAt 0 (fs.take i) = a at *
      generalize greatW (fs.take i) = g at *
      by_cases h0 : kW f.kind = 0
      · rw [h0] at hB
        (refine LWP.seq <| LWP.seq <| LWP.region (by kernel_rfl) <| kmv rfl <| kmv rfl <| K.lenX rfl SliceT.h rfl .plain ?_; refine klt rfl rfl (decide_eq_true (by omega)) <| RunK.nil <| LWP.condT rfl ?_; refine LWP.skip ?_; refine LWP.seq <| LWP.block <| LWP.seq <| LWP.region (by kernel_rfl) <| kmv rfl <| kmv rfl <| K.indexX rfl rfl SliceT.h (by omega) hio .plain <| K.loadXagg rfl hX (by kernel_rfl) hsz hcells .plain <| K.alloc rfl .plain ?_; refine K.storeAll rfl rfl rfl rfl rfl rfl .plain ?_; refine RunK.nil <| LWP.seq <| LWP.region (by kernel_rfl) <| kfa rfl rfl ?_; refine kl1 rfl rfl rfl <| kca rfl rfl (hB) <| kas rfl <| RunK.nil <| LWP.seq <| LWP.seq <| LWP.region (by kernel_rfl) <| kmv rfl <| keq rfl rfl (beq_iff_eq.2 (by omega)) <| kmv rfl <| RunK.passed rfl rfl rfl <| RunK.passed rfl rfl rfl <| RunK.passed rfl rfl rfl <| kpt rfl rfl ?_; refine kmv rfl <| RunK.passed rfl rfl rfl <| RunK.passed rfl rfl rfl <| RunK.passed rfl rfl rfl <| kpt rfl rfl <| RunK.nil <| LWP.condT rfl ?_; refine LWP.seq <| LWP.region (by kernel_rfl) <| kas rfl <| kas rfl <| kas rfl <| kas rfl <| RunK.nil <| LWP.ret ?_)
        exact ⟨[], ⟨[_, _, _, _], ⟨rfl, rfl, rfl, rfl, trivial⟩, rfl⟩, trivial, rfl, rfl⟩
      · have hk : kK f.kind = true := by
          cases e : kK f.kind with
          | true => rfl
          | false => exact absurd ((kW_zero f.kind).2 e) h0
        by_cases h1 : f.count < 1
        · (refine LWP.seq <| LWP.seq <| LWP.region (by kernel_rfl) <| kmv rfl <| kmv rfl <| K.lenX rfl SliceT.h rfl .plain ?_; refine klt rfl rfl (decide_eq_true (by omega)) <| RunK.nil <| LWP.condT rfl ?_; refine LWP.skip ?_; refine LWP.seq <| LWP.block <| LWP.seq <| LWP.region (by kernel_rfl) <| kmv rfl <| kmv rfl <| K.indexX rfl rfl SliceT.h (by omega) hio .plain <| K.loadXagg rfl hX (by kernel_rfl) hsz hcells .plain <| K.alloc rfl .plain ?_; refine K.storeAll rfl rfl rfl rfl rfl rfl .plain ?_; refine RunK.nil <| LWP.seq <| LWP.region (by kernel_rfl) <| kfa rfl rfl ?_; refine kl1 rfl rfl rfl <| kca rfl rfl (hB) <| kas rfl <| RunK.nil <| LWP.seq <| LWP.seq <| LWP.region (by kernel_rfl) <| kmv rfl <| keq rfl rfl (beq_eq_false_iff_ne.2 (by omega)) <| kmv rfl <| K.fieldAddr rfl rfl (.taken rfl rfl) ?_; refine K.loadOne rfl rfl rfl (.taken rfl rfl) ?_; refine K.lss rfl rfl (decide_eq_true (by omega)) (.taken rfl rfl) ?_; refine kpf rfl rfl <| kmv rfl <| RunK.passed rfl rfl rfl <| RunK.passed rfl rfl rfl <| RunK.passed rfl rfl rfl <| kpt rfl rfl <| RunK.nil <| LWP.condT rfl ?_; refine LWP.seq <| LWP.region (by kernel_rfl) <| kas rfl <| kas rfl <| kas rfl <| kas rfl <| RunK.nil <| LWP.ret ?_)
          exact ⟨[], ⟨[_, _, _, _], ⟨rfl, rfl, rfl, rfl, trivial⟩, rfl⟩, trivial, rfl, rfl⟩
        · have h2 : 8 < f.count := by
            unfold Fl.ok at hok
            rw [hk, decide_eq_true (show 1 ≤ f.count by omega)] at hok
            simpa using hok
          (refine LWP.seq <| LWP.seq <| LWP.region (by kernel_rfl) <| kmv rfl <| kmv rfl <| K.lenX rfl SliceT.h rfl .plain ?_; refine klt rfl rfl (decide_eq_true (by omega)) <| RunK.nil <| LWP.condT rfl ?_; refine LWP.skip ?_; refine LWP.seq <| LWP.block <| LWP.seq <| LWP.region (by kernel_rfl) <| kmv rfl <| kmv rfl <| K.indexX rfl rfl SliceT.h (by omega) hio .plain <| K.loadXagg rfl hX (by kernel_rfl) hsz hcells .plain <| K.alloc rfl .plain ?_; refine K.storeAll rfl rfl rfl rfl rfl rfl .plain ?_; refine RunK.nil <| LWP.seq <| LWP.region (by kernel_rfl) <| kfa rfl rfl ?_; refine kl1 rfl rfl rfl <| kca rfl rfl (hB) <| kas rfl <| RunK.nil <| LWP.seq <| LWP.seq <| LWP.region (by kernel_rfl) <| kmv rfl <| keq rfl rfl (beq_eq_false_iff_ne.2 (by omega)) <| kmv rfl <| K.fieldAddr rfl rfl (.taken rfl rfl) ?_; refine K.loadOne rfl rfl rfl (.taken rfl rfl) ?_; refine K.lss rfl rfl (decide_eq_false (by omega)) (.taken rfl rfl) ?_; refine kpf rfl rfl <| kmv rfl <| K.fieldAddr rfl rfl (.taken rfl rfl) ?_; refine K.loadOne rfl rfl rfl (.taken rfl rfl) ?_; refine K.gtr rfl rfl (decide_eq_true (by omega)) (.taken rfl rfl) ?_; refine kpf rfl rfl <| RunK.nil <| LWP.condT rfl ?_; refine LWP.seq <| LWP.region (by kernel_rfl) <| kas rfl <| kas rfl <| kas rfl <| kas rfl <| RunK.nil <| LWP.ret ?_)
          exact ⟨[], ⟨[_, _, _, _], ⟨rfl, rfl, rfl, rfl, trivial⟩, rfl⟩, trivial, rfl, rfl⟩
    | true =>
      have hall' := take_all hall hf hok
      obtain ⟨hw, hn1, hn8, hnc⟩ := ok_w hok
      have hR := round_facts hw (endAt 0 (fs.take i))
      have hwk : kW f.kind = f.w := rfl
      have hw8 : 1 ≤ f.w ∧ f.w ≤ 8 := by rcases hw with e | e | e | e <;> omega
      have hg8 : greatW (fs.take i) ≤ 8 := by rcases hgw with e | e | e | e <;> omega
      rw [hwk] at hB
      generalize elemsAt 0 (fs.take i) = E at *
      generalize startsAt 0 (fs.take i) = S at *
      generalize endAt 0 (fs.take i) = a at *
      generalize greatW (fs.take i) = g at *
      have hfc : f.vals.map CV.val = [.val (.string ⟨f.nm.toArray⟩), .val (.int .i64 f.kind), .val (.int .i64 (f.n : Nat))] := by rw [hnc]; rfl
      rw [hfc] at hcells
      generalize f.w = w at *
      generalize hT : roundUp a w = T at *
      generalize f.n = n at *
      (refine LWP.seq <| LWP.seq <| LWP.region (by kernel_rfl) <| kmv rfl <| kmv rfl <| K.lenX rfl SliceT.h rfl .plain ?_; refine klt rfl rfl (decide_eq_true (by omega)) <| RunK.nil <| LWP.condT rfl ?_; refine LWP.skip ?_; refine LWP.seq <| LWP.block <| LWP.seq <| LWP.region (by kernel_rfl) <| kmv rfl <| kmv rfl <| K.indexX rfl rfl SliceT.h (by omega) hio .plain <| K.loadXagg rfl hX (by kernel_rfl) hsz hcells .plain <| K.alloc rfl .plain ?_; refine K.storeAll rfl rfl rfl rfl rfl rfl .plain ?_; refine RunK.nil <| LWP.seq <| LWP.region (by kernel_rfl) <| kfa rfl rfl ?_; refine kl1 rfl rfl rfl <| kca rfl rfl (hB) <| kas rfl <| RunK.nil <| LWP.seq <| LWP.seq <| LWP.region (by kernel_rfl) <| kmv rfl <| keq rfl rfl (beq_eq_false_iff_ne.2 (by omega)) <| kmv rfl <| K.fieldAddr rfl rfl (.taken rfl rfl) ?_; refine K.loadOne rfl rfl rfl (.taken rfl rfl) ?_; refine K.lss rfl rfl (decide_eq_false (by omega)) (.taken rfl rfl) ?_; refine kpf rfl rfl <| kmv rfl <| K.fieldAddr rfl rfl (.taken rfl rfl) ?_; refine K.loadOne rfl rfl rfl (.taken rfl rfl) ?_; refine K.gtr rfl rfl (decide_eq_false (by omega)) (.taken rfl rfl) ?_; refine kpf rfl rfl <| RunK.nil <| LWP.condF rfl ?_; refine LWP.skip ?_; refine LWP.seq <| LWP.seq ?_)
      generalize hmx : max g w = mx at *
      refine LWP.cut (fun σ => σ = ⟨[(0, Lx (some ⟨blk, off, none⟩) fs.length cap), (6, .sv (.one (.slc 500 0 (E.length) 2))), (7, .sv (.one (.slc 501 0 (i) 1))), (8, Ln .i64 (a : Nat)), (9, Ln .i64 (mx : Nat)), (10, Ln .i64 (i : Nat)), (11, .sv (.one (.ptr 11 0))), (12, Ln .i64 (w : Nat))], [(500, some ⟨106, (elVs E).map .val, Nat.blt 0 E.length⟩), (501, some ⟨3, (ntV (S)).map .val, Nat.blt 0 i⟩), (11, some ⟨57, [.val (.string ⟨f.nm.toArray⟩), .val (.int .i64 f.kind), .val (.int .i64 (n : Nat))], false⟩)], X⟩) ?_ ?_
      · by_cases hgl : g < w
        · have e : mx = w := by omega
          (refine LWP.region (by kernel_rfl) <| kmv rfl <| kmv rfl <| K.gtr rfl rfl (decide_eq_true (by omega)) .plain <| RunK.nil <| LWP.condT rfl ?_; refine LWP.region (by kernel_rfl) <| kmv rfl <| kas rfl <| RunK.nil ?_)
          exact ⟨_, Le.of (by exact ⟨rfl, rfl, rfl, rfl, by rw [e]; rfl, rfl, rfl, rfl, trivial⟩) (by exact ⟨rfl, rfl, rfl, trivial⟩) (by exact rfl) (by exact rfl) (by repeat' (first | refine all_cons_true ?_ ?_ | rfl | exact bytes_inUse | exact vals_inUse | exact mid_inUse rfl)), rfl⟩
        · have e : mx = g := by omega
          (refine LWP.region (by kernel_rfl) <| kmv rfl <| kmv rfl <| K.gtr rfl rfl (decide_eq_false (by omega)) .plain <| RunK.nil <| LWP.condF rfl ?_; refine LWP.skip ?_)
          exact ⟨_, Le.of (by exact ⟨rfl, rfl, rfl, rfl, by rw [e]; rfl, rfl, rfl, rfl, trivial⟩) (by exact ⟨rfl, rfl, rfl, trivial⟩) (by exact rfl) (by exact rfl) (by repeat' (first | refine all_cons_true ?_ ?_ | rfl | exact bytes_inUse | exact vals_inUse | exact mid_inUse rfl)), rfl⟩
      rintro σ rfl
      (refine LWP.seq <| LWP.block ?_)
      refine LWP.loop (fun m σ => ∃ b : Nat, a ≤ b ∧ b ≤ T ∧ m = T - b ∧ σ = ⟨[(0, Lx (some ⟨blk, off, none⟩) fs.length cap), (6, .sv (.one (.slc 500 0 (E.length) 2))), (7, .sv (.one (.slc 501 0 (i) 1))), (8, Ln .i64 (b : Nat)), (9, Ln .i64 (mx : Nat)), (10, Ln .i64 (i : Nat)), (11, .sv (.one (.ptr 11 0))), (12, Ln .i64 (w : Nat))], [(500, some ⟨106, (elVs E).map .val, Nat.blt 0 E.length⟩), (501, some ⟨3, (ntV (S)).map .val, Nat.blt 0 i⟩), (11, some ⟨57, [.val (.string ⟨f.nm.toArray⟩), .val (.int .i64 f.kind), .val (.int .i64 (n : Nat))], false⟩)], X⟩) (T - a)
        ⟨_, Le.of (by exact ⟨rfl, rfl, rfl, rfl, rfl, rfl, rfl, rfl, trivial⟩) (by exact ⟨rfl, rfl, rfl, trivial⟩) (by exact rfl) (by exact rfl) (by repeat' (first | refine all_cons_true ?_ ?_ | rfl | exact bytes_inUse | exact vals_inUse | exact mid_inUse rfl)), a, Nat.le_refl _, hR.2.1, rfl, rfl⟩ ?_
      rintro m σ ⟨b, hb1, hb2, rfl, rfl⟩
      have hrem : ((b : Nat) : Int).tmod ((w : Nat) : Int) = ((b % w : Nat) : Int) := by rw [Int.tmod_eq_emod_of_nonneg (by omega)]; exact (Int.natCast_emod b w).symm
      by_cases hz : b % w = 0
      · have hbT := hR.2.2.2 b hb1 hb2 hz
        subst hbT
        rw [hz] at hrem
        have hcl : ((ntV S).map CV.val).length = i * 1 := by simp [ntV, hSl]
        have hnc1 : (ntV S).map CV.val ++ [.val (.int .i64 (b : Nat))] = (ntV (S ++ [b])).map CV.val := by simp [ntV]
        (refine LWP.seq <| LWP.seq <| LWP.region (by kernel_rfl) <| kmv rfl <| kmv rfl <| K.rem rfl rfl (by omega) hrem .plain <| kne rfl rfl ((bne_eq_false_iff_eq.2 (by omega))) <| RunK.nil <| LWP.condF rfl ?_; refine LWP.exit <| LWP.seq <| LWP.region (by kernel_rfl) <| kmv rfl <| kmv rfl <| K.buildSlc (zs := [.int .i64 0]) (sz := 1) (e := 3) (by kernel_rfl) rfl rfl rfl rfl rfl rfl .plain <| K.appendSlc (by_ := 8) (e2 := 3) (l2 := [.val (.int .i64 (b : Nat))]) rfl rfl hcl rfl rfl (Nat.le_refl _) rfl rfl (by kernel_rfl) (by kernel_rfl) (by omega) (by omega) rfl rfl hnc1 .plain <| kas rfl <| RunK.nil <| LWP.seq <| LWP.region (by kernel_rfl) <| kas rfl <| RunK.nil <| LWP.block ?_)
        refine LWP.loop (fun m σ => ∃ j : Nat, j ≤ n ∧ m = n - j ∧ σ = ⟨[(0, Lx (some ⟨blk, off, none⟩) fs.length cap), (6, .sv (.one (.slc 500 0 (E.length + j) 2))), (7, .sv (.one (.slc 501 0 (i + 1) 1))), (8, Ln .i64 (b + w * j : Nat)), (9, Ln .i64 (mx : Nat)), (10, Ln .i64 (i : Nat)), (11, .sv (.one (.ptr 11 0))), (12, Ln .i64 (w : Nat)), (13, Ln .i64 (j : Nat))], [(500, some ⟨106, (elVs (E ++ (List.range j).map (fun q => (f.kind, b + w * q)))).map .val, Nat.blt 0 (E.length + j)⟩), (501, some ⟨3, (ntV (S ++ [b])).map .val, true⟩), (11, some ⟨57, [.val (.string ⟨f.nm.toArray⟩), .val (.int .i64 f.kind), .val (.int .i64 (n : Nat))], false⟩)], X⟩) n
          ⟨_, Le.ofR [(501, 57)] (by exact ⟨rfl, rfl, rfl, rfl, rfl, rfl, rfl, rfl, rfl, trivial⟩) (by rw [List.range_zero, List.map_nil, List.append_nil]; exact (by repeat' (first | exact trivial | refine And.intro ⟨_, rfl, ?_⟩ ?_ | refine And.intro ⟨_, rfl⟩ ?_ | rfl | exact Box.ren_bytes _ _ _ _ | exact Box.ren_vals _ _ _ _ | exact Box.ren_mid rfl))) (by exact rfl) (by exact rfl) (by repeat' (first | refine all_cons_true ?_ ?_ | rfl | exact bytes_inUse | exact vals_inUse | exact mid_inUse rfl)) (by exact rfl) (by exact rfl), 0, by omega, rfl, rfl⟩ ?_
        rintro m σ ⟨j, hj, rfl, rfl⟩
        have hwj : w * j ≤ 64 := Nat.le_trans (Nat.mul_le_mul hw8.2 (Nat.le_trans hj hn8)) (by decide)
        by_cases hjn : j < n
        · have hrg : (List.range (j + 1)).map (fun q => (f.kind, b + w * q)) = (List.range j).map (fun q => (f.kind, b + w * q)) ++ [(f.kind, b + w * j)] := by rw [List.range_succ, List.map_append]; rfl
          have hcl2 : ((elVs (E ++ (List.range j).map (fun q => (f.kind, b + w * q)))).map CV.val).length = (E.length + j) * 2 := by rw [List.length_map, elVs_len]; simp
          have hnc2 : (elVs (E ++ (List.range j).map (fun q => (f.kind, b + w * q)))).map CV.val ++ [.val (.int .i64 f.kind), .val (.int .i64 (b + w * j : Nat))] = (elVs (E ++ (List.range (j + 1)).map (fun q => (f.kind, b + w * q)))).map CV.val := by
            rw [hrg, ← List.append_assoc, elVs_app (E ++ _) [_], List.map_append]
            rfl
          have hadd : ((b + w * j : Nat) : Int) + ((w : Nat) : Int) = ((b + w * (j + 1) : Nat) : Int) := by rw [Nat.mul_add, Nat.mul_one]; omega
          have hwr : IntKind.i64.wrap (((b + w * j : Nat) : Int) + ((w : Nat) : Int)) = ((b + w * (j + 1) : Nat) : Int) := by rw [wrap_i64 (by omega)]; exact hadd
          (refine LWP.seq <| LWP.seq <| LWP.region (by kernel_rfl) <| kmv rfl <| kfa rfl rfl ?_; refine kl1 rfl rfl rfl <| klt rfl rfl (decide_eq_true (by omega)) <| RunK.nil <| LWP.condT rfl ?_; refine LWP.skip ?_; refine LWP.seq <| LWP.block <| LWP.seq <| LWP.region (by kernel_rfl) <| kmv rfl <| kfa rfl rfl ?_; refine kl1 rfl rfl rfl <| kmv rfl <| K.build rfl rfl (by exact rfl) (by exact nl2 rfl rfl rfl) .plain ?_; refine K.buildSlc (zs := [.int .i64 0, .int .i64 0]) (sz := 2) (e := 106) (by kernel_rfl) rfl rfl rfl rfl rfl rfl .plain <| K.appendSlc (by_ := 16) (e2 := 106) (l2 := [.val (.int .i64 f.kind), .val (.int .i64 (b + w * j : Nat))]) (nl := E.length + (j + 1)) rfl rfl hcl2 rfl rfl (Nat.le_refl _) rfl rfl (by kernel_rfl) (by kernel_rfl) (by omega) (by omega) rfl rfl hnc2 .plain <| kas rfl <| RunK.nil <| LWP.region (by kernel_rfl) <| kmv rfl <| kmv rfl <| kad rfl rfl hwr <| kas rfl <| RunK.nil <| LWP.region (by kernel_rfl) <| kmv rfl <| kad rfl rfl (wrap_i64 (by omega)) <| kas rfl ?_; refine RunK.nil ?_)
          exact ⟨_, _, by omega, Le.ofR [(500, 70)] (by exact ⟨rfl, rfl, rfl, rfl, rfl, rfl, rfl, rfl, rfl, trivial⟩) (by repeat' (first | exact trivial | refine And.intro ⟨_, rfl, ?_⟩ ?_ | refine And.intro ⟨_, rfl⟩ ?_ | rfl | exact Box.ren_bytes _ _ _ _ | exact Box.ren_vals _ _ _ _ | exact Box.ren_mid rfl)) (by exact rfl) (by exact rfl) (by repeat' (first | refine all_cons_true ?_ ?_ | rfl | exact bytes_inUse | exact vals_inUse | exact mid_inUse rfl)) (by exact rfl) (by exact rfl), j + 1, by omega, rfl, rfl⟩
        · have e : j = n := by omega
          subst e
          have hEn : (E ++ (List.range j).map (fun q => (f.kind, b + w * q))).length = E.length + j := by simp
          (refine LWP.seq <| LWP.seq <| LWP.region (by kernel_rfl) <| kmv rfl <| kfa rfl rfl ?_; refine kl1 rfl rfl rfl <| klt rfl rfl (decide_eq_false (by omega)) <| RunK.nil <| LWP.condF rfl ?_; refine LWP.exit <| LWP.region (by kernel_rfl) <| kmv rfl <| kad rfl rfl (wrap_i64 (by omega)) <| kas rfl <| RunK.nil ?_)
          exact ⟨_, _, by omega, Le.ofR [] (by exact ⟨rfl, by rw [hE, hEn]; rfl, rfl, by rw [hA]; rfl, by rw [hG]; rfl, rfl, trivial⟩) (by rw [hE, hS, hEn]; exact (by repeat' (first | exact trivial | refine And.intro ⟨_, rfl, ?_⟩ ?_ | refine And.intro ⟨_, rfl⟩ ?_ | rfl | exact Box.ren_bytes _ _ _ _ | exact Box.ren_vals _ _ _ _ | exact Box.ren_mid rfl))) (by exact rfl) (by exact rfl) (by repeat' (first | refine all_cons_true ?_ ?_ | rfl | exact bytes_inUse | exact vals_inUse | exact mid_inUse rfl)) (by exact rfl) (by exact rfl), i + 1, by omega, rfl, hall', rfl⟩
      · have hbT : b ≠ T := fun e => hz (by rw [e]; exact hR.1)
        (refine LWP.seq <| LWP.seq <| LWP.region (by kernel_rfl) <| kmv rfl <| kmv rfl <| K.rem rfl rfl (by omega) hrem .plain <| kne rfl rfl (bne_iff_ne.2 (by omega)) <| RunK.nil <| LWP.condT rfl ?_; refine LWP.skip ?_; refine LWP.block <| LWP.region (by kernel_rfl) <| kmv rfl <| kad rfl rfl (wrap_i64 (by omega)) <| kas rfl <| RunK.nil ?_)
        exact ⟨_, _, by omega, Le.of (by exact ⟨rfl, rfl, rfl, rfl, rfl, rfl, rfl, rfl, trivial⟩) (by exact ⟨rfl, rfl, rfl, trivial⟩) (by exact rfl) (by exact rfl) (by repeat' (first | refine all_cons_true ?_ ?_ | rfl | exact bytes_inUse | exact vals_inUse | exact mid_inUse rfl)), b + 1, by omega, by omega, rfl, rfl⟩
  · have e : i = fs.length := by omega
    subst e
    rw [List.take_length] at *
    have hR := round_facts hgw (endAt 0 fs)
    have hg8 : 1 ≤ greatW fs ∧ greatW fs ≤ 8 := by rcases hgw with e | e | e | e <;> omega
    have hrs : roundUp (endAt 0 fs) (greatW fs) = rowSize fs := rfl
    have hle := layErr_all h8 hall
    (refine LWP.seq <| LWP.seq <| LWP.region (by kernel_rfl) <| kmv rfl <| kmv rfl <| K.lenX rfl SliceT.h rfl .plain ?_; refine klt rfl rfl (decide_eq_false (by omega)) <| RunK.nil <| LWP.condF rfl ?_; refine LWP.exit <| LWP.seq <| LWP.block ?_)
    refine LWP.loop (fun m σ => ∃ b : Nat, endAt 0 fs ≤ b ∧ b ≤ rowSize fs ∧ m = rowSize fs - b ∧ σ = ⟨[(6, .sv (.one (.slc 500 0 (elemsAt 0 fs).length 2))), (7, .sv (.one (.slc 501 0 fs.length 1))), (8, Ln .i64 (b : Nat)), (9, Ln .i64 (greatW fs : Nat))], [(500, some ⟨106, (elVs (elemsAt 0 fs)).map .val, Nat.blt 0 (elemsAt 0 fs).length⟩), (501, some ⟨3, (ntV (startsAt 0 fs)).map .val, Nat.blt 0 fs.length⟩)], X⟩) (rowSize fs - endAt 0 fs)
      ⟨_, Le.of (by exact ⟨rfl, rfl, rfl, rfl, trivial⟩) (by exact ⟨rfl, rfl, trivial⟩) (by exact rfl) (by exact rfl) (by repeat' (first | refine all_cons_true ?_ ?_ | rfl | exact bytes_inUse | exact vals_inUse | exact mid_inUse rfl)), endAt 0 fs, Nat.le_refl _, hR.2.1, rfl, rfl⟩ ?_
    rintro m σ ⟨b, hb1, hb2, rfl, rfl⟩
    rw [hrs] at hR
    unfold layR layBx
    rw [hle]
    generalize rowSize fs = T at *
    generalize endAt 0 fs = a at *
    generalize elemsAt 0 fs = E at *
    generalize startsAt 0 fs = S at *
    generalize greatW fs = w at *
    have hrem : ((b : Nat) : Int).tmod ((w : Nat) : Int) = ((b % w : Nat) : Int) := by rw [Int.tmod_eq_emod_of_nonneg (by omega)]; exact (Int.natCast_emod b w).symm
    by_cases hz : b % w = 0
    · have hbT := hR.2.2.2 b hb1 hb2 hz
      subst hbT
      rw [hz] at hrem
      by_cases h256 : 256 < b
      · rw [if_pos h256, if_neg (by decide), if_neg (by decide)]
        (refine LWP.seq <| LWP.seq <| LWP.region (by kernel_rfl) <| kmv rfl <| kmv rfl <| K.rem rfl rfl (by omega) hrem .plain <| kne rfl rfl ((bne_eq_false_iff_eq.2 (by omega))) <| RunK.nil <| LWP.condF rfl ?_; refine LWP.exit <| LWP.seq <| LWP.seq <| LWP.region (by kernel_rfl) <| kmv rfl <| K.gtr rfl rfl (decide_eq_true (by omega)) .plain <| RunK.nil <| LWP.condT rfl ?_; refine LWP.seq <| LWP.region (by kernel_rfl) <| kas rfl <| kas rfl <| kas rfl <| kas rfl <| RunK.nil <| LWP.ret ?_)
        exact ⟨[], ⟨[_, _, _, _], ⟨rfl, rfl, rfl, rfl, trivial⟩, rfl⟩, trivial, rfl, rfl⟩
      · rw [if_neg h256, if_pos rfl, if_pos rfl]
        (refine LWP.seq <| LWP.seq <| LWP.region (by kernel_rfl) <| kmv rfl <| kmv rfl <| K.rem rfl rfl (by omega) hrem .plain <| kne rfl rfl ((bne_eq_false_iff_eq.2 (by omega))) <| RunK.nil <| LWP.condF rfl ?_; refine LWP.exit <| LWP.seq <| LWP.seq <| LWP.region (by kernel_rfl) <| kmv rfl <| K.gtr rfl rfl (decide_eq_false (by omega)) .plain <| RunK.nil <| LWP.condF rfl ?_; refine LWP.skip ?_; refine LWP.seq <| LWP.region (by kernel_rfl) <| kmv rfl <| kmv rfl <| kmv rfl <| kas rfl <| kas rfl <| kas rfl <| kas rfl <| RunK.nil <| LWP.ret ?_)
        exact ⟨[(1000001, 500), (1000002, 501)], ⟨[_, _, _, _], ⟨rfl, rfl, rfl, rfl, trivial⟩, rfl⟩, (by repeat' (first | exact trivial | refine And.intro ⟨_, rfl, ?_⟩ ?_ | refine And.intro ⟨_, rfl⟩ ?_ | rfl | exact Box.ren_bytes _ _ _ _ | exact Box.ren_vals _ _ _ _ | exact Box.ren_mid rfl)), rfl, rfl⟩
    · have hbT : b ≠ T := fun e => hz (by rw [e]; exact hR.1)
      (refine LWP.seq <| LWP.seq <| LWP.region (by kernel_rfl) <| kmv rfl <| kmv rfl <| K.rem rfl rfl (by omega) hrem .plain <| kne rfl rfl (bne_iff_ne.2 (by omega)) <| RunK.nil <| LWP.condT rfl ?_; refine LWP.skip ?_; refine LWP.block <| LWP.region (by kernel_rfl) <| kmv rfl <| kad rfl rfl (wrap_i64 (by omega)) <| kas rfl <| RunK.nil ?_)
      exact ⟨_, _, by omega, Le.of (by exact ⟨rfl, rfl, rfl, rfl, trivial⟩) (by exact ⟨rfl, rfl, trivial⟩) (by exact rfl) (by exact rfl) (by repeat' (first | refine all_cons_true ?_ ?_ | rfl | exact bytes_inUse | exact vals_inUse | exact mid_inUse rfl)), b + 1, by omega, by omega, rfl, rfl⟩
end Go.Proofs.YtnomcmklhbjfjaaGreatDoor
end
section
namespace Go.Lg.Fld
open Go Go.Lg
theorem elVs_at : ∀ {l : List (Int × Nat)} {i : Nat} {e : Int × Nat}, l[i]? = some e → ((elVs l).map CV.val)[i * 2]? = some (.val (.int .i64 e.1)) ∧ ((elVs l).map CV.val)[i * 2 + 1]? = some (.val (.int .i64 (e.2 : Nat)))
  | [], i, e, h => by simp at h
  | d :: t, 0, e, h => by
    simp only [List.getElem?_cons_zero, Option.some.injEq] at h
    subst h
    exact ⟨rfl, rfl⟩
  | d :: t, i + 1, e, h => by
    have ih := elVs_at (l := t) (i := i) (e := e) (by simpa using h)
    have e1 : (elVs (d :: t)).map CV.val = .val (.int .i64 d.1) :: .val (.int .i64 (d.2 : Nat)) :: (elVs t).map CV.val := rfl
    rw [e1, Nat.add_mul, Nat.one_mul]
    exact ih
def nmV (n : Bool × Int) : List Value := [.bool n.1, .int .u64 (n.2 / 18446744073709551616), .int .u64 (n.2 % 18446744073709551616)]
end Go.Lg.Fld
namespace Go.Proofs.YtnomcmklhbjfjaaGreatDoor
open Go Go.Lg Go.Lg.Fld
set_option maxRecDepth 100000
variable (X : Nat → Option Obj)
structure NumsIn (X : Nat → Option Obj) (ad : Option Addr) (ns : List (Bool × Int)) : Prop where
  rows : Go.Lg.RowsIn X ad 3 (ns.map nmV)
  in2 : ∀ n ∈ ns, In2 n.2
theorem NumsIn.at {X : Nat → Option Obj} {ad : Option Addr} {ns : List (Bool × Int)} (h : NumsIn X ad ns) {i : Nat} {b : Bool} {N : Int} (hf : ns[i]? = some (b, N)) :
    In2 N ∧ ∃ (blk off : Nat) (arr : Array Value) (el : TypeId) (fr : Nat × Nat), ad = some ⟨blk, off, none⟩ ∧ X blk = some (.cells arr el fr) ∧ off + i * 3 + 3 ≤ arr.size ∧ ((arr.toList.drop (off + i * 3)).take 3).map CV.val = cI b N := by
  obtain ⟨blk, off, arr, el, fr, h1, h2, h3, h4⟩ := h.rows i (nmV (b, N)) (by rw [List.getElem?_map, hf]; rfl)
  exact ⟨h.in2 (b, N) (List.mem_of_getElem? hf), blk, off, arr, el, fr, h1, h2, h3, by rw [h4]; rfl⟩
theorem Lay_ok (ad : Option Addr) (cap : Nat) (fs : List Fl) (hin : FieldsIn X ad fs) (hbig : fs.length < 4611686018427387904) (h : layErr fs = 0) :
    MSpec Tryz.prog X 28 [Lx ad fs.length cap] [] (.tup [.one (.slc 1000001 0 (elemsAt 0 fs).length 2), Sn .i64 (rowSize fs : Nat), .one (.slc 1000002 0 fs.length 1), Sn .i64 0])
      [(1000001, some ⟨106, (elVs (elemsAt 0 fs)).map .val, Nat.blt 0 (elemsAt 0 fs).length⟩), (1000002, some ⟨3, (ntV (startsAt 0 fs)).map .val, Nat.blt 0 fs.length⟩)] := by
  have := Lay_spec X ad cap fs hin hbig
  unfold layR layBx at this
  rw [if_pos h, if_pos h] at this
  exact this
theorem Lay_no (ad : Option Addr) (cap : Nat) (fs : List Fl) (hin : FieldsIn X ad fs) (hbig : fs.length < 4611686018427387904) (h : layErr fs ≠ 0) :
    MSpec Tryz.prog X 28 [Lx ad fs.length cap] [] (.tup [Vnil, Sn .i64 0, Vnil, Sn .i64 (layErr fs)]) [] := by
  have := Lay_spec X ad cap fs hin hbig
  unfold layR layBx at this
  rw [if_neg h, if_neg h] at this
  exact this
theorem layErr_facts {fs : List Fl} (h : layErr fs = 0) : fs.length ≤ 8 ∧ fs.all Fl.ok = true ∧ rowSize fs ≤ 256 := by
  unfold layErr at h
  split at h
  · cases h
  · split at h
    · split at h
      · cases h
      · rename_i h1 h2 h3; exact ⟨by omega, h2, by omega⟩
    · cases h
def fitAll (es : List (Int × Nat)) (ns : List (Bool × Int)) : Bool := (es.zip ns).all fun p => fitB p.1.1 p.2.1 p.2.2
def fitErr (fs : List Fl) (ns : List (Bool × Int)) : Int := if layErr fs = 0 then (if (elemsAt 0 fs).length = ns.length then (if fitAll (elemsAt 0 fs) ns = true then 0 else 3) else 4) else layErr fs
theorem zip_at {α β : Type} {es : List α} {ns : List β} {i : Nat} {e : α} {n : β} (h1 : es[i]? = some e) (h2 : ns[i]? = some n) : (es.zip ns)[i]? = some (e, n) := List.getElem?_zip_eq_some.2 ⟨h1, h2⟩
end Go.Proofs.YtnomcmklhbjfjaaGreatDoor
end
section
namespace Go.Lg
open Go Go.RowKit
section
variable {P : Program} {n : Nat} {ops os : List Oper} {acc : List Eff} {K : List Eff → St → Prop} {s : List (Nat × LV)} {bx : List (Nat × Option Box)} {X : Nat → Option Obj} {σ : St}
theorem slcBuild_one {t e : TypeId} {m : Nat} {v : Value} (hu : P.underlying t = some (.slice e)) (hz : (P.info? e).map (fun i => (i.size, i.zero.map (fun z => z.cells))) = some (1, some #[v])) (hm : m ≤ 16777216) :
    slcBuild P t m = some (List.replicate m v, 1, e) := by
  unfold slcBuild
  rw [hu]
  simp only
  cases hi : P.info? e with
  | none => rw [hi] at hz; cases hz
  | some ie =>
    rw [hi] at hz
    simp only [Option.map_some, Option.some.injEq, Prod.mk.injEq] at hz
    obtain ⟨h1, h2⟩ := hz
    cases hzz : ie.zero with
    | none => rw [hzz] at h2; cases h2
    | some z =>
      rw [hzz] at h2
      simp only [Option.map_some, Option.some.injEq] at h2
      simp only [hzz, h1, h2]
      rw [if_neg (show ¬ m * 1 > 2 ^ 24 by omega)]
      have : ((List.range (m * 1)).map fun i => (#[v] : Array Value)[i % (#[v] : Array Value).size]!) = List.replicate m v := by
        rw [Nat.mul_one]
        apply List.ext_getElem
        · simp
        · intro i h1 h2
          have : i % 1 = 0 := Nat.mod_one i
          simp [this]
      rw [this]
structure ReadsX (X : Nat → Option Obj) (ad : Option Addr) (news : List Value) : Prop where
  cells : ∀ i u, news[i]? = some u → ∃ (blk off : Nat) (arr : Array Value) (el : TypeId) (fr : Nat × Nat), ad = some ⟨blk, off, none⟩ ∧ X blk = some (.cells arr el fr) ∧ arr[off + i]? = some u
theorem LOK.appendX {d k len m cap sz by_ : Nat} {ad : Addr} {t tx e e2 : TypeId} {x y : Operand} {ty : TypeId} {pos : String} {after_ : Array Edge} {g : Option (Nat × Bool)} {cells : List CV} {row : Bool} {news : List Value}
    (hx : σ.ev x = some (.sv (.one (.slc k 0 len sz)))) (hk : σ.stat k = some (some ⟨e, cells, row⟩)) (hcl : cells.length = len * sz) (hy : σ.ev y = some (.sv (.one (.val (.slice (some ad) m cap))))) (hX : ReadsX σ.X (some ad) news) (hnl : news.length = m * sz) (hone : ∀ u ∈ news, u.oneCell' = true)
    (hinf : slcInfo P t = some (e, sz, by_)) (htx : P.underlying tx = some (.slice e2)) (hfit : (len + m) * by_ ≤ 140737488355328) (h63 : len + m < 9223372036854775808) (hd : σ.fresh d = true) :
    LOK P n ops ⟨some d, .call ⟨.builtin .append, #[x, y], #[t, tx]⟩, ty, pos, after_, g⟩ σ ⟨[(d, .sv (.one (.slc d 0 (len + m) sz)))], [], [(d, some ⟨e, cells ++ news.map .val, true⟩), (k, none)]⟩ :=
  LOK.make fun σ' ha C ι a w hr => by
    have hk' : σ'.stat k = _ := (ha.stat k (.inr (by simp))).trans hk
    have hd' : σ'.stat d = none := (ha.stat d (.inr (by simp))).trans (St.fresh_none hd)
    have h1 := hr.ev ((ha.ev (x := x) (by simp [Op.operands, Call.operands])).trans hx)
    have h2 : a.eval y = .slice (some ad) m cap := hr.ev ((ha.ev (x := y) (by simp [Op.operands, Call.operands])).trans hy)
    simp only [LV.rel, SV.rel, CV.rel, hk'] at h1
    obtain ⟨c, h1, hle, hcs⟩ := h1
    have hsrc := Src.ofSlice (P := P) w (size := sz) htx ad m cap news hnl (fun j u hj => by
      obtain ⟨blk, off, arr, el, fr, e1, e2, e3⟩ := hX.cells j u hj
      have e1 : ad = ⟨blk, off, none⟩ := by simpa using e1
      subst e1
      have hw := hr.ext blk _ (by rw [ha.X]; exact e2)
      rw [addr_add]
      simp only [World.cell?, hw, Option.isSome_none, Bool.false_eq_true, if_false]
      exact e3) hone
    obtain ⟨v, w', ι', hrun, hrel, hv⟩ := append_core (ty := ty) hr hinf (xv := a.eval x) (yv := a.eval y) h1 hle hcs hk' hcl (by rw [h2]; exact hsrc) (CVs.rel_map_val news) hd' (St.fresh_lt hd) hfit h63
    exact ⟨v, w', ι', by simp [execOp, resolve, invoke, builtin, hrun], hrel, hv⟩
theorem K.appendX {d k len m cap sz by_ : Nat} {ad : Addr} {t tx e e2 : TypeId} {x y : Operand} {ty : TypeId} {pos : String} {after_ : Array Edge} {g : Option (Nat × Bool)} {cells : List CV} {row : Bool} {news : List Value}
    (hx : (⟨s, bx, X⟩ : St).ev x = some (.sv (.one (.slc k 0 len sz)))) (hk : (⟨s, bx, X⟩ : St).stat k = some (some ⟨e, cells, row⟩)) (hcl : cells.length = len * sz) (hy : (⟨s, bx, X⟩ : St).ev y = some (.sv (.one (.val (.slice (some ad) m cap))))) (hX : ReadsX X (some ad) news) (hnl : news.length = m * sz) (hone : ∀ u ∈ news, u.oneCell' = true)
    (hinf : slcInfo P t = some (e, sz, by_)) (htx : P.underlying tx = some (.slice e2)) (hfit : (len + m) * by_ ≤ 140737488355328) (h63 : len + m < 9223372036854775808) (hd : (⟨s, bx, X⟩ : St).fresh d = true) {nl : Nat} {nc : List CV} (hnl2 : len + m = nl) (hnc : cells ++ news.map .val = nc) (hw : Want ops s g)
    (kont : RunK P n ops os ⟨(d, .sv (.one (.slc d 0 nl sz))) :: s, (d, some ⟨e, nc, true⟩) :: (k, none) :: bx, X⟩ (⟨[(d, .sv (.one (.slc d 0 nl sz)))], [], [(d, some ⟨e, nc, true⟩), (k, none)]⟩ :: acc) K) :
    RunK P n ops (⟨some d, .call ⟨.builtin .append, #[x, y], #[t, tx]⟩, ty, pos, after_, g⟩ :: os) ⟨s, bx, X⟩ acc K := by
  subst hnl2 hnc
  exact RunK.gen hw (LOK.appendX hx hk hcl hy hX hnl hone hinf htx hfit h63 hd) kont
theorem append_nil_core {C : Ctx} {ι : Nat → Nat × Nat} {a : Act} {w : World} {σ' : St} (hr : Rel n C ι σ' a w) {t tx ty e : TypeId} {sz by_ : Nat} (hinf : slcInfo P t = some (e, sz, by_)) {xv yv : Value} {d m : Nat} {l2 : List CV} {news : List Value}
    (hv : xv = .slice none 0 0) (hsrc : Src P sz tx yv m news w) (hl2 : CVs.rel σ'.stat ι l2 news) (hd : σ'.stat d = none) (hlt : d < 1000000) (hm : 1 ≤ m) (hfit : m * by_ ≤ 140737488355328) (h63 : m < 9223372036854775808) :
    ∃ v w' ι', (Builtin.append_ #[t, tx] ty #[xv, yv]).run P w = .ok v w' ∧ Rel n C ι' ⟨σ'.slots, (d, some ⟨e, l2, true⟩) :: σ'.boxes, σ'.X⟩ a w' ∧
      (CV.slc d 0 m sz).rel (⟨σ'.slots, (d, some ⟨e, l2, true⟩) :: σ'.boxes, σ'.X⟩ : St).stat ι' v := by
  obtain ⟨ie, z, hu, hi, hz, hsz, hby, hzs⟩ := slcInfo_spec hinf
  subst hv
  have hnl : news.length = m * sz := hsrc.newsLen
  have hstd : (⟨σ'.slots, (d, some ⟨e, l2, true⟩) :: σ'.boxes, σ'.X⟩ : St).stat d = some (some ⟨e, l2, true⟩) := by rw [stat_cons, if_pos rfl]
  subst hsz hby
  have hne := growslice_fits (need := 0 + m) (old := 0) (bytes := ie.bytes) (by omega) (by rw [Nat.zero_add]; exact hfit)
  have hold := run_firstCells_none (P := P) w.drew ie.size 0 0 0
  have hrun := run_append_grow_src (P := P) w t tx ty e ie z hu hi hz none 0 0 [] hold yv m news hsrc (by omega) (by omega) hne
  rw [Nat.zero_add, List.nil_append] at hrun
  refine ⟨_, _, _, hrun, hr.drew.new hlt hd (b := ⟨e, l2, true⟩) (arr := news.toArray ++ Builtin.zeroCells z.cells (grownCap w m 0 e - m)) ?_, ?_⟩
  · simp only [Box.rel]
    exact ⟨news, (Builtin.zeroCells z.cells (grownCap w m 0 e - m)).toList, by simp, hl2⟩
  · simp only [CV.rel, hstd, put1, if_true]
    have hge := grownCap_ge w m 0 e
    refine ⟨_, rfl, hge, ?_⟩
    have hzc : (Builtin.zeroCells z.cells (grownCap w m 0 e - m)).size = (grownCap w m 0 e - m) * ie.size := by
      simp [Builtin.zeroCells, hzs]
    rw [Array.size_append, hzc]
    have h5 : grownCap w m 0 e = (grownCap w m 0 e - m) + m := by omega
    generalize grownCap w m 0 e - m = q at *
    rw [h5, Nat.add_mul]
    simp
    omega
theorem LOK.appendNil {d k2 m sz by_ : Nat} {t tx e e2 : TypeId} {x y : Operand} {ty : TypeId} {pos : String} {after_ : Array Edge} {g : Option (Nat × Bool)} {l2 : List CV} {e3 : TypeId} {cs2 : List CV} {row2 : Bool}
    (hx : σ.ev x = some (.sv (.one (.val (.slice none 0 0))))) (hy : σ.ev y = some (.sv (.one (.slc k2 0 m sz)))) (hk2 : σ.stat k2 = some (some ⟨e3, cs2, row2⟩)) (hm2 : m * sz ≤ cs2.length) (hl2 : cs2.take (m * sz) = l2) (hso : l2.all CV.solid = true) (hm : 1 ≤ m)
    (hinf : slcInfo P t = some (e, sz, by_)) (htx : P.underlying tx = some (.slice e2)) (hfit : m * by_ ≤ 140737488355328) (h63 : m < 9223372036854775808) (hd : σ.fresh d = true) :
    LOK P n ops ⟨some d, .call ⟨.builtin .append, #[x, y], #[t, tx]⟩, ty, pos, after_, g⟩ σ ⟨[(d, .sv (.one (.slc d 0 m sz)))], [k2], [(d, some ⟨e, l2, true⟩)]⟩ :=
  LOK.make fun σ' ha C ι a w hr => by
    have hk2' : σ'.stat k2 = _ := (ha.stat k2 (.inl (by simp))).trans hk2
    have hd' : σ'.stat d = none := (ha.stat d (.inr (by simp))).trans (St.fresh_none hd)
    have h1 : a.eval x = .slice none 0 0 := hr.ev ((ha.ev (x := x) (by simp [Op.operands, Call.operands])).trans hx)
    have h2 := hr.ev ((ha.ev (x := y) (by simp [Op.operands, Call.operands])).trans hy)
    simp only [LV.rel, SV.rel, CV.rel, hk2'] at h2
    obtain ⟨c2, h2, -, -⟩ := h2
    obtain ⟨arr2, fr2, harr2, -, -, hbr2⟩ := hr.boxes k2 _ hk2' rfl
    obtain ⟨hsz2, hpart⟩ := Box.rel_part hbr2 (off := 0) (m := m * sz) (by show 0 + m * sz ≤ cs2.length; omega)
    rw [List.drop_zero, hl2, List.drop_zero] at hpart
    have hlen2 : (arr2.toList.take (m * sz)).length = m * sz := by simp at hsz2 ⊢; omega
    have hone : ∀ u ∈ arr2.toList.take (m * sz), u.oneCell' = true := (SV.cells_ok (s := .agg l2) (v := .agg (arr2.toList.take (m * sz)).toArray) ⟨_, rfl, by simpa using hpart⟩ hso).2 |> fun h u hu => h u (by simpa [Value.cells] using hu)
    have hsrc := Src.ofSlice (P := P) w (size := sz) htx ⟨(ι k2).1, 0, none⟩ m c2 (arr2.toList.take (m * sz)) hlen2 (fun j u hj => by
      rw [addr_add]
      simp only [World.cell?, harr2, Option.isSome_none, Bool.false_eq_true, if_false]
      rw [List.getElem?_take] at hj
      split at hj
      · simpa using hj
      · simp at hj) hone
    obtain ⟨v, w', ι', hrun, hrel, hv⟩ := append_nil_core (ty := ty) hr hinf (xv := a.eval x) (yv := a.eval y) h1 (by rw [h2]; exact hsrc) hpart hd' (St.fresh_lt hd) hm hfit h63
    exact ⟨v, w', ι', by simp [execOp, resolve, invoke, builtin, hrun], hrel, hv⟩
theorem K.appendNil {d k2 m sz by_ : Nat} {t tx e e2 : TypeId} {x y : Operand} {ty : TypeId} {pos : String} {after_ : Array Edge} {g : Option (Nat × Bool)} {l2 : List CV} {e3 : TypeId} {cs2 : List CV} {row2 : Bool}
    (hx : (⟨s, bx, X⟩ : St).ev x = some (.sv (.one (.val (.slice none 0 0))))) (hy : (⟨s, bx, X⟩ : St).ev y = some (.sv (.one (.slc k2 0 m sz)))) (hk2 : (⟨s, bx, X⟩ : St).stat k2 = some (some ⟨e3, cs2, row2⟩)) (hm2 : m * sz ≤ cs2.length) (hl2 : cs2.take (m * sz) = l2) (hso : l2.all CV.solid = true) (hm : 1 ≤ m)
    (hinf : slcInfo P t = some (e, sz, by_)) (htx : P.underlying tx = some (.slice e2)) (hfit : m * by_ ≤ 140737488355328) (h63 : m < 9223372036854775808) (hd : (⟨s, bx, X⟩ : St).fresh d = true) (hw : Want ops s g)
    (kont : RunK P n ops os ⟨(d, .sv (.one (.slc d 0 m sz))) :: s, (d, some ⟨e, l2, true⟩) :: bx, X⟩ (⟨[(d, .sv (.one (.slc d 0 m sz)))], [k2], [(d, some ⟨e, l2, true⟩)]⟩ :: acc) K) :
    RunK P n ops (⟨some d, .call ⟨.builtin .append, #[x, y], #[t, tx]⟩, ty, pos, after_, g⟩ :: os) ⟨s, bx, X⟩ acc K := RunK.gen hw (LOK.appendNil hx hy hk2 hm2 hl2 hso hm hinf htx hfit h63 hd) kont
end
end Go.Lg
end
section
namespace Go.Lg.Fld
open Go Go.Lg
def setAt (b : List UInt8) (p : Nat) (s : List UInt8) : List UInt8 := b.take p ++ s ++ b.drop (p + s.length)
theorem setAt_len {b s : List UInt8} {p : Nat} (h : p + s.length ≤ b.length) : (setAt b p s).length = b.length := by
  simp only [setAt, List.length_append, List.length_take, List.length_drop]; omega
end Go.Lg.Fld
namespace Go.Proofs.YtnomcmklhbjfjaaGreatDoor
open Go Go.Lg Go.Lg.Fld
set_option maxRecDepth 100000
variable (X : Nat → Option Obj)
def numB (k : Int) (n : Bool × Int) : List UInt8 := leB (kW k) (wdK k (zv n.1 n.2))
def packE : List (Int × Nat) → List (Bool × Int) → List UInt8 → List UInt8
  | e :: t, v :: u, b => packE t u (setAt b e.2 (numB e.1 v))
  | _, _, b => b
theorem packE_snoc (e : Int × Nat) (v : Bool × Int) : ∀ (l : List (Int × Nat)) (m : List (Bool × Int)) (b : List UInt8), l.length = m.length → packE (l ++ [e]) (m ++ [v]) b = setAt (packE l m b) e.2 (numB e.1 v)
  | [], [], b, _ => rfl
  | e' :: t, v' :: u, b, h => packE_snoc e v t u _ (by simpa using h)
  | [], _ :: _, _, h => by simp at h
  | _ :: _, [], _, h => by simp at h
def Within (es : List (Int × Nat)) (T : Nat) : Prop := ∀ e ∈ es, kK e.1 = true ∧ e.2 + kW e.1 ≤ T
theorem elems_in : ∀ (l : List Fl) (a : Nat), l.all Fl.ok = true → ∀ e ∈ elemsAt a l, kK e.1 = true ∧ a ≤ e.2 ∧ e.2 + kW e.1 ≤ endAt a l
  | [], a, _, e, he => by simp [elemsAt] at he
  | f :: t, a, h, e, he => by
    simp only [List.all_cons, Bool.and_eq_true] at h
    obtain ⟨hw, h1, h8, hc⟩ := ok_w h.1
    have hr := round_facts hw a
    have hi := end_le t (roundUp a f.w + f.w * f.n) h.2
    simp only [elemsAt, List.mem_append, List.mem_map, List.mem_range] at he
    rcases he with ⟨i, hin, rfl⟩ | he
    · have hk : kK f.kind = true := by have := h.1; simp only [Fl.ok, Bool.and_eq_true] at this; exact this.1
      have hm : f.w * i + f.w ≤ f.w * f.n := by rw [← Nat.mul_succ]; exact Nat.mul_le_mul_left _ hin
      refine ⟨hk, by simp only; omega, ?_⟩
      show roundUp a f.w + f.w * i + f.w ≤ endAt (roundUp a f.w + f.w * f.n) t
      omega
    · have := elems_in t _ h.2 e he
      refine ⟨this.1, by omega, ?_⟩
      exact this.2.2
theorem within_row {fs : List Fl} (h : fs.all Fl.ok = true) : Within (elemsAt 0 fs) (rowSize fs) := fun e he => by
  have h1 := elems_in fs 0 h e he
  have h2 := round_facts (great_wd fs h) (endAt 0 fs)
  refine ⟨h1.1, Nat.le_trans h1.2.2 h2.2.1⟩
theorem numB_len (k : Int) (n : Bool × Int) : (numB k n).length = kW k := leB_length _ _
theorem packE_len {T : Nat} : ∀ {es : List (Int × Nat)} {ns : List (Bool × Int)} {b : List UInt8}, Within es T → b.length = T → (packE es ns b).length = T
  | [], _, b, _, hb => hb
  | _ :: _, [], b, _, hb => hb
  | e :: t, v :: u, b, hw, hb => by
    have h1 := (hw e (by simp)).2
    exact packE_len (es := t) (ns := u) (fun x hx => hw x (by simp [hx])) (by rw [setAt_len (by rw [numB_len]; omega)]; exact hb)
def packB (fs : List Fl) (ns : List (Bool × Int)) : List UInt8 := packE (elemsAt 0 fs) ns (List.replicate (rowSize fs) 0)
theorem fitErr_facts {fs : List Fl} {ns : List (Bool × Int)} (h : fitErr fs ns = 0) : layErr fs = 0 ∧ (elemsAt 0 fs).length = ns.length ∧ fitAll (elemsAt 0 fs) ns = true := by
  unfold fitErr at h
  split at h
  · rename_i h0
    split at h
    · rename_i h1
      split at h
      · rename_i h2; exact ⟨h0, h1, h2⟩
      · cases h
    · cases h
  · contradiction
theorem fitAll_at {es : List (Int × Nat)} {ns : List (Bool × Int)} (h : fitAll es ns = true) {i : Nat} {e : Int × Nat} {b : Bool} {N : Int} (he : es[i]? = some e) (hv : ns[i]? = some (b, N)) : formB b N = true ∧ kK e.1 = true ∧ fitZ e.1 (zv b N) = true := by
  have := List.all_eq_true.1 h _ (List.mem_of_getElem? (zip_at he hv))
  simp only [fitB, Bool.and_eq_true] at this
  exact ⟨this.2.1, this.1, this.2.2⟩
end Go.Proofs.YtnomcmklhbjfjaaGreatDoor
end
section
namespace Go.Proofs.YtnomcmklhbjfjaaGreatDoor
open Go Go.Lg Go.Lg.Fld
set_option maxRecDepth 100000
variable (X : Nat → Option Obj)
def qn (z : Int) : Bool × Int := (decide (z < 0), mg z)
theorem zv_qn (z : Int) : zv (qn z).1 (qn z).2 = z := by
  unfold qn zv mg
  by_cases h : z < 0
  · simp [h]
  · simp [h]
def rdE (s : List UInt8) (e : Int × Nat) : Int := nbK e.1 (le ((s.drop e.2).take (kW e.1)))
def readOk (es : List (Int × Nat)) (s : List UInt8) : Bool := es.all fun e => fitZ e.1 (rdE s e)
def unpZ (fs : List Fl) (s : List UInt8) : List Int := (elemsAt 0 fs).map (rdE s)
def unpOk (fs : List Fl) (s : List UInt8) : Bool := decide (s.length = rowSize fs) && (readOk (elemsAt 0 fs) s && (packB fs ((unpZ fs s).map qn) == s))
def unpErr (fs : List Fl) (s : List UInt8) : Int := if layErr fs = 0 then (if unpOk fs s = true then 0 else 4) else layErr fs
def nsV (zs : List Int) : List Value := (zs.map fun z => nmV (qn z)).flatten
theorem nsV_len (zs : List Int) : (nsV zs).length = zs.length * 3 := by
  induction zs with
  | nil => rfl
  | cons z t ih => simp only [nsV, List.map_cons, List.flatten_cons, List.length_append] at ih ⊢; rw [ih]; simp [nmV]; omega
theorem read_R {es : List (Int × Nat)} {s : List UInt8} {T : Nat} (hW : Within es T) (hs : s.length = T) {e : Int × Nat} (he : e ∈ es) : ((s.drop e.2).take (kW e.1)).length = kW e.1 ∧ R127 (rdE s e) := by
  have h := hW e he
  have hl : ((s.drop e.2).take (kW e.1)).length = kW e.1 := by rw [List.length_take, List.length_drop]; omega
  refine ⟨hl, ?_⟩
  have hb := le_lt ((s.drop e.2).take (kW e.1))
  rw [hl] at hb
  exact nb_R h.1 hb
theorem nums_in2 {zs : List Int} (h : ∀ z ∈ zs, R127 z) : ∀ n ∈ zs.map qn, In2 n.2 := fun n hn => by
  obtain ⟨z, hz, rfl⟩ := List.mem_map.1 hn
  exact mg_in2 (h z hz)
theorem fit_read {es : List (Int × Nat)} {s : List UInt8} {T : Nat} (hW : Within es T) (hs : s.length = T) (hok : readOk es s = true) : fitAll es ((es.map (rdE s)).map qn) = true := by
  unfold fitAll
  refine List.all_eq_true.2 fun p hp => ?_
  obtain ⟨i, hi⟩ := List.getElem?_of_mem hp
  obtain ⟨h1, h2⟩ := List.getElem?_zip_eq_some.1 hi
  rw [List.getElem?_map, List.getElem?_map, h1] at h2
  simp only [Option.map_some, Option.some.injEq] at h2
  have hm := List.mem_of_getElem? h1
  have hf := List.all_eq_true.1 hok _ hm
  have hR := (read_R hW hs hm).2
  rw [← h2]
  simp only [fitB, Bool.and_eq_true]
  refine ⟨(hW _ hm).1, formB_q hR, ?_⟩
  rw [zv_qn]; exact hf
def unpR (fs : List Fl) (s : List UInt8) : LV := if unpErr fs s = 0 then .tup [.one (.slc 1000001 0 (unpZ fs s).length 3), Sn .i64 0] else .tup [Vnil, Sn .i64 (unpErr fs s)]
end Go.Proofs.YtnomcmklhbjfjaaGreatDoor
end
section
namespace Go.Lg
open Go Go.RowKit
section
variable {P : Program} {n : Nat} {C : Ctx} {c y x z : Code} {Q Q1 Q2 : Exit → St → Prop} {X : Nat → Option Obj} {σ : St}
structure Leads (n : Nat) (C : Ctx) (Mid : St → Prop) (σ : St) : Prop where
  out : ∀ ι a w, Rel n C ι σ a w → ∃ ι' σ', Mid σ' ∧ Rel n C ι' σ' a w
theorem Leads.here {Mid : St → Prop} {σ' : St} (hle : Le n C σ σ') (h : Mid σ') : Leads n C Mid σ := ⟨fun ι a w hr => by
  obtain ⟨ι', hr'⟩ := hle.out ι a w hr
  exact ⟨ι', σ', h, hr'⟩⟩
theorem Leads.le {Mid : St → Prop} {σ' : St} (hle : Le n C σ σ') (h : Leads n C Mid σ') : Leads n C Mid σ := ⟨fun ι a w hr => by
  obtain ⟨ι', hr'⟩ := hle.out ι a w hr
  exact h.out ι' a w hr'⟩
theorem LWP.ofLeads {Mid : St → Prop} (h : Leads n C Mid σ) (hm : ∀ σ, Mid σ → LWP P n C y Q σ) : LWP P n C y Q σ := by
  refine ⟨fun ι a w hr => ?_⟩
  obtain ⟨ι', σ', hM, hr'⟩ := h.out ι a w hr
  exact (hm σ' hM).out ι' a w hr'
theorem LWP.meetL (Mid : St → Prop) (h : LWP P n C c (thenQ (Leads n C Mid) (fun _ _ => False)) σ) (hm : ∀ σ, Mid σ → LWP P n C y Q σ) : LWP P n C c (thenQ (LWP P n C y Q) Q2) σ := by
  refine h.mono ?_
  intro e σ' hq
  cases e with
  | normal => exact LWP.ofLeads hq hm
  | exit id' => exact hq.elim
  | goto l => exact hq.elim
  | ret => exact hq.elim
  | panic c => exact hq.elim
  | outgrown => exact hq.elim
theorem rel_mid {S : Nat → Option (Option Box)} {ι : Nat → Nat × Nat} : ∀ {A : List CV} {c : CV} {B : List CV} {vs : List Value}, CVs.rel S ι (A ++ c :: B) vs → ∃ va v vb, vs = va ++ v :: vb ∧ CVs.rel S ι A va ∧ c.rel S ι v ∧ CVs.rel S ι B vb
  | [], c, B, [], h => h.elim
  | [], c, B, v :: vs, h => ⟨[], v, vs, rfl, trivial, h.1, h.2⟩
  | a :: A, c, B, [], h => h.elim
  | a :: A, c, B, v :: vs, h => by
    obtain ⟨va, u, vb, e, h1, h2, h3⟩ := rel_mid (A := A) (c := c) (B := B) h.2
    exact ⟨v :: va, u, vb, by rw [e]; rfl, ⟨h.1, h1⟩, h2, h3⟩
theorem Rel.freezeCell {ι : Nat → Nat × Nat} {a : Act} {w : World} {s : List (Nat × LV)} {bx : List (Nat × Option Box)} {j k off len sz : Nat} {el el2 : TypeId} {A B : List CV} {row2 : Bool} {vals : List Value} {row : Bool}
    (hs : s.all (fun p => p.2.inUse ((j, none) :: bx)) = true) (hA : A.all (CV.inUse ((j, none) :: bx)) = true) (hB : B.all (CV.inUse ((j, none) :: bx)) = true) (hb : bx.all (fun p => match p.2 with | some b => b.cells.all (CV.inUse ((j, none) :: bx)) | none => true) = true) (hk : look k bx = none) (hjk : Nat.beq j k = false)
    (hr : Rel n C ι ⟨s, (j, some ⟨el2, A ++ .slc k off len sz :: B, row2⟩) :: (k, some ⟨el, vals.map .val, row⟩) :: bx, X⟩ a w) :
    ∃ (blk cap : Nat) (arr : Array Value) (fr : Nat × Nat), X blk = none ∧ Frozen C blk arr fr ∧ len ≤ cap ∧ off + cap * sz ≤ arr.size ∧ (∃ sp, arr.toList = vals ++ sp) ∧
      Rel n C ι ⟨s, (j, some ⟨el2, A ++ .val (.slice (some ⟨blk, off, none⟩) len cap) :: B, row2⟩) :: bx, withBlock X blk (.cells arr el fr)⟩ a w := by
  have hjk' : j ≠ k := fun e => by rw [e, Nat.beq_refl] at hjk; cases hjk
  have hst : (⟨s, (j, some ⟨el2, A ++ .slc k off len sz :: B, row2⟩) :: (k, some ⟨el, vals.map .val, row⟩) :: bx, X⟩ : St).stat k = some (some ⟨el, vals.map .val, row⟩) := by
    simp [St.stat, look, hjk]
  have hstj : (⟨s, (j, some ⟨el2, A ++ .slc k off len sz :: B, row2⟩) :: (k, some ⟨el, vals.map .val, row⟩) :: bx, X⟩ : St).stat j = some (some ⟨el2, A ++ .slc k off len sz :: B, row2⟩) := by
    simp [St.stat, look]
  have hlk : ∀ k' x, look k' bx = some x → k' ≠ k := fun k' x h' e => by rw [e, hk] at h'; cases h'
  have hstb : ∀ k', k' ≠ j → ∀ x, look k' bx = some x → (⟨s, (j, some ⟨el2, A ++ .slc k off len sz :: B, row2⟩) :: (k, some ⟨el, vals.map .val, row⟩) :: bx, X⟩ : St).stat k' = some x := fun k' hne x h' => by
    simp only [St.stat, look]
    cases e : Nat.beq j k' with
    | true => exact absurd (Nat.eq_of_beq_eq_true e).symm hne
    | false =>
      cases e2 : Nat.beq k k' with
      | true => exact absurd (Nat.eq_of_beq_eq_true e2).symm (hlk k' x h')
      | false => exact h'
  obtain ⟨arr, fr, harr, hth, hsz, hbr⟩ := hr.boxes k _ hst rfl
  obtain ⟨arrj, frj, harrj, hthj, hszj, hbrj⟩ := hr.boxes j _ hstj rfl
  have hXn : X (ι k).1 = none := (hr.own k _ hst).2
  have hsp : ∃ sp, arr.toList = vals ++ sp := by
    unfold Box.rel at hbr
    cases hrow : row with
    | false =>
      rw [hrow] at hbr
      exact ⟨[], by rw [List.append_nil]; exact rel_vals hbr⟩
    | true =>
      rw [hrow] at hbr
      obtain ⟨us, sp, e, hl⟩ := hbr
      exact ⟨sp, by rw [e, rel_vals hl]⟩
  have hcell : ∃ us sp va v vb, arrj.toList = us ++ sp ∧ (row2 = false → sp = []) ∧ us = va ++ v :: vb ∧ CVs.rel (⟨s, (j, some ⟨el2, A ++ .slc k off len sz :: B, row2⟩) :: (k, some ⟨el, vals.map .val, row⟩) :: bx, X⟩ : St).stat ι A va ∧ (CV.slc k off len sz).rel (⟨s, (j, some ⟨el2, A ++ .slc k off len sz :: B, row2⟩) :: (k, some ⟨el, vals.map .val, row⟩) :: bx, X⟩ : St).stat ι v ∧ CVs.rel (⟨s, (j, some ⟨el2, A ++ .slc k off len sz :: B, row2⟩) :: (k, some ⟨el, vals.map .val, row⟩) :: bx, X⟩ : St).stat ι B vb := by
    generalize (⟨s, (j, some ⟨el2, A ++ .slc k off len sz :: B, row2⟩) :: (k, some ⟨el, vals.map .val, row⟩) :: bx, X⟩ : St).stat = S at hbrj ⊢
    unfold Box.rel at hbrj
    cases row2 with
    | false =>
      obtain ⟨va, v, vb, e, h1, h2, h3⟩ := rel_mid hbrj
      exact ⟨arrj.toList, [], va, v, vb, by simp, fun _ => rfl, e, h1, h2, h3⟩
    | true =>
      obtain ⟨us, sp, e0, hl⟩ := hbrj
      obtain ⟨va, v, vb, e, h1, h2, h3⟩ := rel_mid hl
      exact ⟨us, sp, va, v, vb, e0, fun h => (by cases h), e, h1, h2, h3⟩
  obtain ⟨us, sp2, va, v, vb, eus, hsp2, evs, h1, h2, h3⟩ := hcell
  simp only [CV.rel] at h2
  rw [hst] at h2
  obtain ⟨cap, rfl, hcap, hfit⟩ := h2
  refine ⟨(ι k).1, cap, arr, fr, hXn, ⟨(hr.own k _ hst).1, hth⟩, hcap, by omega, hsp, ?_⟩
  have hon : ∀ k', (look k' ((j, (none : Option Box)) :: bx)).isSome = true → k' ≠ k := fun k' hk' e => by
    subst e
    simp only [look, hjk, cond_false, hk] at hk'
    cases hk'
  have hnew : ∀ k', (⟨s, (j, some ⟨el2, A ++ .val (.slice (some ⟨(ι k).1, off, none⟩) len cap) :: B, row2⟩) :: bx, withBlock X (ι k).1 (.cells arr el fr)⟩ : St).stat k' = if k' = j then some (some ⟨el2, A ++ .val (.slice (some ⟨(ι k).1, off, none⟩) len cap) :: B, row2⟩) else look k' bx := fun k' => by
    simp only [St.stat, look]
    cases e : Nat.beq j k' with
    | true => rw [if_pos (Nat.eq_of_beq_eq_true e).symm]; rfl
    | false => rw [if_neg (fun h => by rw [h, Nat.beq_refl] at e; cases e)]; rfl
  have hstat : ∀ k', k' ≠ k → ∀ x, (⟨s, (j, some ⟨el2, A ++ .val (.slice (some ⟨(ι k).1, off, none⟩) len cap) :: B, row2⟩) :: bx, withBlock X (ι k).1 (.cells arr el fr)⟩ : St).stat k' = some (some x) → ∃ y, (⟨s, (j, some ⟨el2, A ++ .slc k off len sz :: B, row2⟩) :: (k, some ⟨el, vals.map .val, row⟩) :: bx, X⟩ : St).stat k' = some (some y) := fun k' hne x hx => by
    rw [hnew] at hx
    by_cases e : k' = j
    · rw [e]; exact ⟨_, hstj⟩
    · rw [if_neg e] at hx
      exact ⟨x, hstb k' e _ hx⟩
  have hmean : ∀ {c : CV} {v : Value}, c.inUse ((j, none) :: bx) = true → c.rel (⟨s, (j, some ⟨el2, A ++ .slc k off len sz :: B, row2⟩) :: (k, some ⟨el, vals.map .val, row⟩) :: bx, X⟩ : St).stat ι v →
      c.rel (⟨s, (j, some ⟨el2, A ++ .val (.slice (some ⟨(ι k).1, off, none⟩) len cap) :: B, row2⟩) :: bx, withBlock X (ι k).1 (.cells arr el fr)⟩ : St).stat ι v := fun {c v} hu hc => by
    have key : ∀ k', (look k' ((j, (none : Option Box)) :: bx)).isSome = true → (k' = j) ∨ (k' ≠ j ∧ ∃ x, look k' bx = some x ∧ (⟨s, (j, some ⟨el2, A ++ .slc k off len sz :: B, row2⟩) :: (k, some ⟨el, vals.map .val, row⟩) :: bx, X⟩ : St).stat k' = some x) := fun k' hk' => by
      by_cases e : k' = j
      · exact .inl e
      · right
        have e2 : Nat.beq j k' = false := by
          cases h : Nat.beq j k' with
          | false => rfl
          | true => exact absurd (Nat.eq_of_beq_eq_true h).symm e
        simp only [look, e2, cond_false] at hk'
        obtain ⟨x, hx⟩ := Option.isSome_iff_exists.1 hk'
        exact ⟨e, x, hx, hstb k' e x hx⟩
    cases c with
    | val u => exact hc
    | junk => trivial
    | ptr k' o =>
      simp only [CV.rel] at hc ⊢
      rw [hnew]
      rcases key k' hu with e | ⟨e, x, hx, hx2⟩
      · subst e
        rw [hstj] at hc
        rw [if_pos rfl]; exact hc
      · rw [hx2] at hc
        rw [if_neg e, hx]; exact hc
    | slc k' o n' z' =>
      simp only [CV.rel] at hc ⊢
      rw [hnew]
      rcases key k' hu with e | ⟨e, x, hx, hx2⟩
      · subst e
        rw [hstj] at hc
        rw [if_pos rfl]; exact hc
      · rw [hx2] at hc
        rw [if_neg e, hx]; exact hc
    | mp k' =>
      simp only [CV.rel] at hc ⊢
      rw [hnew]
      rcases key k' hu with e | ⟨e, x, hx, hx2⟩
      · subst e
        rw [hstj] at hc
        rw [if_pos rfl]; exact hc
      · rw [hx2] at hc
        rw [if_neg e, hx]; exact hc
  have hmeans : ∀ {l : List CV} {vs : List Value}, l.all (CV.inUse ((j, none) :: bx)) = true → CVs.rel (⟨s, (j, some ⟨el2, A ++ .slc k off len sz :: B, row2⟩) :: (k, some ⟨el, vals.map .val, row⟩) :: bx, X⟩ : St).stat ι l vs →
      CVs.rel (⟨s, (j, some ⟨el2, A ++ .val (.slice (some ⟨(ι k).1, off, none⟩) len cap) :: B, row2⟩) :: bx, withBlock X (ι k).1 (.cells arr el fr)⟩ : St).stat ι l vs := by
    intro l
    induction l with
    | nil => intro vs _ h; cases vs with
      | nil => trivial
      | cons => exact h.elim
    | cons c l ih => intro vs hu h; cases vs with
      | nil => exact h.elim
      | cons v vs =>
        simp only [List.all_cons, Bool.and_eq_true] at hu
        exact ⟨hmean hu.1 h.1, ih hu.2 h.2⟩
  have hsv : ∀ {l : SV} {v : Value}, l.inUse ((j, none) :: bx) = true → l.rel (⟨s, (j, some ⟨el2, A ++ .slc k off len sz :: B, row2⟩) :: (k, some ⟨el, vals.map .val, row⟩) :: bx, X⟩ : St).stat ι v →
      l.rel (⟨s, (j, some ⟨el2, A ++ .val (.slice (some ⟨(ι k).1, off, none⟩) len cap) :: B, row2⟩) :: bx, withBlock X (ι k).1 (.cells arr el fr)⟩ : St).stat ι v := fun {l v} hu h => by
    cases l with
    | one c => exact hmean hu h
    | agg l => obtain ⟨arr', e, hl⟩ := h; exact ⟨arr', e, hmeans hu hl⟩
  exact {
    defers := hr.defers, size := hr.size
    slots := fun d' lv hd => by
      obtain ⟨v', hv', hr'⟩ := hr.slots d' lv hd
      refine ⟨v', hv', ?_⟩
      have hu : lv.inUse ((j, none) :: bx) = true := List.all_eq_true.1 hs _ (look_mem hd)
      cases lv with
      | sv l => exact hsv hu hr'
      | tup l =>
        obtain ⟨arr', e, hl⟩ := hr'
        refine ⟨arr', e, ?_⟩
        generalize arr'.toList = vs at hl
        have hu2 : l.all (SV.inUse ((j, none) :: bx)) = true := hu
        clear hu hd hv'
        induction l generalizing vs with
        | nil => cases vs with
          | nil => trivial
          | cons => exact hl.elim
        | cons c l ih => cases vs with
          | nil => exact hl.elim
          | cons v vs =>
            simp only [List.all_cons, Bool.and_eq_true] at hu2
            exact ⟨hsv hu2.1 hl.1, ih vs hl.2 hu2.2⟩
    res := by
      obtain ⟨F, hF⟩ := hr.res
      refine hF.keep (fun i e cs R hi => ?_) (fun _ _ _ _ _ hj => hj) (fun _ _ ho => ho) (fun b _ hx hne _ => ?_) (fun i bi hi => ?_)
      · rw [hnew] at hi
        by_cases e : i = j
        · rw [if_pos e] at hi; cases hi
        · rw [if_neg e] at hi; exact ⟨hstb i e _ hi, rfl⟩
      · show withBlock X (ι k).1 _ b = none
        unfold withBlock
        rw [if_neg (fun e => hne k _ hst rfl e.symm)]
        exact hx
      · have hne : i ≠ k := fun e => by
          rw [hnew, e] at hi
          by_cases e2 : k = j
          · exact hjk' e2.symm
          · rw [if_neg e2, hk] at hi; cases hi
        obtain ⟨y, hy⟩ := hstat i hne bi hi
        exact .inl ⟨y, hy, rfl⟩
    boxes := fun k' b hb' hbk => by
      rw [hnew] at hb'
      by_cases e : k' = j
      · subst e
        rw [if_pos rfl] at hb'
        cases hb'
        refine ⟨arrj, frj, harrj, hthj, hszj, ?_⟩
        have hnewcells : CVs.rel (⟨s, (k', some ⟨el2, A ++ .val (.slice (some ⟨(ι k).1, off, none⟩) len cap) :: B, row2⟩) :: bx, withBlock X (ι k).1 (.cells arr el fr)⟩ : St).stat ι (A ++ .val (.slice (some ⟨(ι k).1, off, none⟩) len cap) :: B) us := by
          rw [evs]
          exact CVs.rel_append (hmeans hA h1) ⟨rfl, hmeans hB h3⟩
        unfold Box.rel
        cases row2 with
        | false => rw [hsp2 rfl, List.append_nil] at eus; rw [eus]; exact hnewcells
        | true => exact ⟨us, sp2, eus, hnewcells⟩
      · rw [if_neg e] at hb'
        obtain ⟨arr', fr', g1, g2, g3, g4⟩ := hr.boxes k' b (hstb k' e _ hb') hbk
        refine ⟨arr', fr', g1, g2, g3, ?_⟩
        have hu : b.cells.all (CV.inUse ((j, none) :: bx)) = true := by simpa using List.all_eq_true.1 hb _ (look_mem hb')
        unfold Box.rel at g4 ⊢
        cases hrow : b.row with
        | res R => rw [hrow] at g4; exact g4.elim
        | bool r =>
          cases r with
          | false => rw [hrow] at g4; exact hmeans hu g4
          | true => rw [hrow] at g4; obtain ⟨us', sp', e', hl'⟩ := g4; exact ⟨us', sp', e', hmeans hu hl'⟩
    own := fun k' b hb' => by
      have hne : k' ≠ k := fun e => by
        rw [hnew, e] at hb'
        by_cases e2 : k = j
        · exact hjk' e2.symm
        · rw [if_neg e2, hk] at hb'; cases hb'
      obtain ⟨b0, hb0⟩ := hstat k' hne b hb'
      obtain ⟨g1, g2⟩ := hr.own k' b0 hb0
      refine ⟨g1, ?_⟩
      show withBlock X (ι k).1 _ (ι k').1 = none
      unfold withBlock
      rw [if_neg (fun e => hne (hr.inj k' k b0 _ hb0 hst e))]
      exact g2
    inj := fun k1 k2 b1 b2 g1 g2 he => by
      have hne : ∀ k' b, (⟨s, (j, some ⟨el2, A ++ .val (.slice (some ⟨(ι k).1, off, none⟩) len cap) :: B, row2⟩) :: bx, withBlock X (ι k).1 (.cells arr el fr)⟩ : St).stat k' = some (some b) → k' ≠ k := fun k' b hb' e => by
        rw [hnew, e] at hb'
        by_cases e2 : k = j
        · exact hjk' e2.symm
        · rw [if_neg e2, hk] at hb'; cases hb'
      obtain ⟨c1, hc1⟩ := hstat k1 (hne k1 b1 g1) b1 g1
      obtain ⟨c2, hc2⟩ := hstat k2 (hne k2 b2 g2) b2 g2
      exact hr.inj k1 k2 c1 c2 hc1 hc2 he
    keep := fun k' b hb' hge => by
      have hne : k' ≠ k := fun e => by
        rw [hnew, e] at hb'
        by_cases e2 : k = j
        · exact hjk' e2.symm
        · rw [if_neg e2, hk] at hb'; cases hb'
      obtain ⟨b0, hb0⟩ := hstat k' hne b hb'
      exact hr.keep k' b0 hb0 hge
    ext := fun b o hbo => by
      have hbo : withBlock X (ι k).1 (.cells arr el fr) b = some o := hbo
      unfold withBlock at hbo
      by_cases e : b = (ι k).1
      · rw [if_pos e] at hbo
        rw [e, harr]; exact hbo
      · rw [if_neg e] at hbo
        exact hr.ext b o hbo
    frame := hr.frame, big := hr.big, os := hr.os, tape := hr.tape, output := hr.output }
theorem Leads.freezeCell {Mid : St → Prop} {s : List (Nat × LV)} {bx : List (Nat × Option Box)} {j k off len sz : Nat} {el el2 : TypeId} {A B : List CV} {row2 : Bool} {vals : List Value} {row : Bool}
    (hs : s.all (fun p => p.2.inUse ((j, none) :: bx)) = true) (hA : A.all (CV.inUse ((j, none) :: bx)) = true) (hB : B.all (CV.inUse ((j, none) :: bx)) = true) (hb : bx.all (fun p => match p.2 with | some b => b.cells.all (CV.inUse ((j, none) :: bx)) | none => true) = true) (hk : look k bx = none) (hjk : Nat.beq j k = false)
    (h : ∀ (blk cap : Nat) (arr : Array Value) (fr : Nat × Nat), X blk = none → Frozen C blk arr fr → len ≤ cap → off + cap * sz ≤ arr.size → (∃ sp, arr.toList = vals ++ sp) →
      Leads n C Mid ⟨s, (j, some ⟨el2, A ++ .val (.slice (some ⟨blk, off, none⟩) len cap) :: B, row2⟩) :: bx, withBlock X blk (.cells arr el fr)⟩) :
    Leads n C Mid ⟨s, (j, some ⟨el2, A ++ .slc k off len sz :: B, row2⟩) :: (k, some ⟨el, vals.map .val, row⟩) :: bx, X⟩ := ⟨fun ι a w hr => by
  obtain ⟨blk, cap, arr, fr, h1, h2, h3, h4, h5, h6⟩ := hr.freezeCell hs hA hB hb hk hjk
  exact (h blk cap arr fr h1 h2 h3 h4 h5).out ι a w h6⟩
end
end Go.Lg
end
section
namespace Go.Lg
open Go Go.RowKit
theorem args_rel : ∀ (vals : List Value), LVs.rel noS (fun _ => (0, 0)) (vals.map toLV) vals
  | [] => trivial
  | v :: vs => ⟨toLV_rel _ _ v, args_rel vs⟩
section
variable {P : Program} {n : Nat} {ops os : List Oper} {acc : List Eff} {K : List Eff → St → Prop} {s : List (Nat × LV)} {bx : List (Nat × Option Box)} {X : Nat → Option Obj} {σ : St}
theorem LOK.fieldAddrX {d : Nat} {s i : Nat} {x : Operand} {ty : TypeId} {pos : String} {after : Array Edge} {g : Option (Nat × Bool)} {b off o m : Nat} {off' : Nat} (hx : σ.ev x = some (.sv (.one (.val (.pointer (some ⟨b, off, none⟩))))))
    (hf : fieldOf P s i = some (o, m + 1)) (ho : off + o = off') :
    LOK P n ops ⟨some d, .fieldAddr s x i, ty, pos, after, g⟩ σ ⟨[(d, .sv (.one (.val (.pointer (some ⟨b, off', none⟩)))))], [], []⟩ :=
  LOK.value fun σ' ha C ι a w hr => by
    have h1 : a.eval x = _ := hr.ev ((ha.ev (x := x) (by simp [Op.operands])).trans hx)
    subst ho
    unfold fieldOf at hf
    cases hu : P.underlying s with
    | none => simp [hu] at hf
    | some dd =>
      cases dd <;> simp only [hu] at hf <;> try (simp at hf; done)
      rename_i fs
      cases hfi : fs[i]? with
      | none => simp [hfi] at hf
      | some f =>
        cases hin : P.info? f.type with
        | none => simp [hfi, hin] at hf
        | some inf =>
          simp only [hfi, hin, Option.map_some, Option.some.injEq, Prod.mk.injEq] at hf
          obtain ⟨e1, e2⟩ := hf
          refine ⟨_, ?_, rfl⟩
          simp [execOp, Instr.fieldAt, run_underlying hu, hfi, Instr.sureAddr, h1, fieldPlace, sizeOf, typeInfo, hin, e2, addr_add, e1]
theorem K.fieldAddrX {d : Nat} {t : TypeId} {x : Operand} {ty : TypeId} {pos : String} {after : Array Edge} {g : Option (Nat × Bool)} {i b off o m : Nat} [f : FieldT P t i o m] (hx : (⟨s, bx, X⟩ : St).ev x = some (.sv (.one (.val (.pointer (some ⟨b, off, none⟩)))))) {off' : Nat} (ho : Nat.add off o = off') (hw : Want ops s g)
    (kont : RunK P n ops os ⟨(d, .sv (.one (.val (.pointer (some ⟨b, off', none⟩))))) :: s, bx, X⟩ (⟨[(d, .sv (.one (.val (.pointer (some ⟨b, off', none⟩)))))], [], []⟩ :: acc) K) :
    RunK P n ops (⟨some d, .fieldAddr t x i, ty, pos, after, g⟩ :: os) ⟨s, bx, X⟩ acc K := RunK.g1 (LOK.fieldAddrX hx f.h ho) hw kont
end
end Go.Lg
end
section
namespace Go.Lg
open Go Go.RowKit
section
variable {P : Program} {n : Nat} {ops os : List Oper} {acc : List Eff} {K : List Eff → St → Prop} {s : List (Nat × LV)} {bx : List (Nat × Option Box)} {X : Nat → Option Obj} {σ : St}
end
end Go.Lg
end
section
namespace Go.Lg
open Go Go.RowKit
section
variable {P : Program} {n : Nat} {ops os : List Oper} {acc : List Eff} {K : List Eff → St → Prop} {s : List (Nat × LV)} {bx : List (Nat × Option Box)} {X : Nat → Option Obj} {σ : St}
theorem LOK.max2 {d : Nat} {tys : Array TypeId} {x y : Operand} {ty : TypeId} {pos : String} {after_ : Array Edge} {g : Option (Nat × Bool)} {k : IntKind} {a b c : Int} (hx : σ.ev x = some (.sv (.one (.val (.int k a))))) (hy : σ.ev y = some (.sv (.one (.val (.int k b))))) (hc : (if b > a then b else a) = c) :
    LOK P n ops ⟨some d, .call ⟨.builtin .max, #[x, y], tys⟩, ty, pos, after_, g⟩ σ ⟨[(d, .sv (.one (.val (.int k c))))], [], []⟩ :=
  LOK.value fun σ' ha C ι av w hr => by
    have h1 : av.eval x = .int k a := hr.ev ((ha.ev (x := x) (by simp [Op.operands, Call.operands])).trans hx)
    have h2 : av.eval y = .int k b := hr.ev ((ha.ev (x := y) (by simp [Op.operands, Call.operands])).trans hy)
    have hrun : (Builtin.max_ tys ty #[.int k a, .int k b]).run P w = .ok (.int k c) w := by
      subst hc
      simp [Builtin.max_, Builtin.max2]
    exact ⟨_, by simp [execOp, resolve, invoke, builtin, h1, h2, hrun], rfl⟩
theorem K.max2 {d : Nat} {tys : Array TypeId} {x y : Operand} {ty : TypeId} {pos : String} {after_ : Array Edge} {g : Option (Nat × Bool)} {k : IntKind} {a b c : Int} (hx : (⟨s, bx, X⟩ : St).ev x = some (.sv (.one (.val (.int k a))))) (hy : (⟨s, bx, X⟩ : St).ev y = some (.sv (.one (.val (.int k b))))) (hc : (if b > a then b else a) = c) (hw : Want ops s g)
    (kont : RunK P n ops os ⟨(d, .sv (.one (.val (.int k c)))) :: s, bx, X⟩ (⟨[(d, .sv (.one (.val (.int k c))))], [], []⟩ :: acc) K) :
    RunK P n ops (⟨some d, .call ⟨.builtin .max, #[x, y], tys⟩, ty, pos, after_, g⟩ :: os) ⟨s, bx, X⟩ acc K := RunK.g1 (LOK.max2 hx hy hc) hw kont
theorem LOK.fromSlc {d k off len sz l : Nat} {t : TypeId} {x y : Operand} {ty : TypeId} {pos : String} {after_ : Array Edge} {g : Option (Nat × Bool)} {kh : IntKind} (hx : σ.ev x = some (.sv (.one (.slc k off len sz)))) (hy : σ.ev y = some (.sv (.one (.val (.int kh (l : Nat))))))
    (ht : sliceOf P t = some sz) (hh : l < len) : LOK P n ops ⟨some d, .slice t x (some y) none none, ty, pos, after_, g⟩ σ ⟨[(d, .sv (.one (.slc k (off + l * sz) (len - l) sz)))], [], []⟩ :=
  LOK.value fun σ' ha C ι a w hr => by
    have h1 := hr.ev ((ha.ev (x := x) (by simp [Op.operands])).trans hx)
    have h2 : a.eval y = .int kh (l : Nat) := hr.ev ((ha.ev (x := y) (by simp [Op.operands])).trans hy)
    obtain ⟨e, hu, hsz⟩ := sliceOf_spec ht
    have hrun : ∀ b c : Nat, len ≤ c → (Instr.sliceAt t (.slice (some ⟨b, off, none⟩) len c) (some (.int kh (l : Nat))) none none).run P w = .ok (.slice (some ⟨b, off + l * sz, none⟩) (len - l) (c - l)) w := by
      intro b c hc
      have ha0 : (⟨b, off, none⟩ : Addr).add (l * sz) = ⟨b, off + l * sz, none⟩ := addr_add _ _ _
      have hcl : c ≠ l := by omega
      simp [Instr.sliceAt, Instr.slice, run_underlying hu, Instr.sliceBounds, Instr.sliceBound, asIntOf, hsz, ha0, hcl]
      omega
    simp only [LV.rel, SV.rel, CV.rel] at h1 ⊢
    cases hk : σ'.stat k with
    | none => simp [hk] at h1
    | some bb =>
      cases bb with
      | none =>
        simp only [hk] at h1 ⊢
        obtain ⟨b, c, h1, h3⟩ := h1
        exact ⟨_, by simp only [execOp, h1, h2, Option.map_none, Option.map_some, Sem.run_bind, hrun b c h3, Result.andThen_ok, Sem.run_pure], b, c - l, rfl, by omega⟩
      | some b =>
        simp only [hk] at h1 ⊢
        obtain ⟨c, h1, h3, h4⟩ := h1
        refine ⟨_, by simp only [execOp, h1, h2, Option.map_none, Option.map_some, Sem.run_bind, hrun _ c h3, Result.andThen_ok, Sem.run_pure], c - l, rfl, by omega, ?_⟩
        rw [Nat.add_assoc, ← Nat.add_mul, Nat.add_sub_cancel' (by omega)]; exact h4
theorem K.fromSlc {d k off len sz l off' len' : Nat} {t : TypeId} {x y : Operand} {ty : TypeId} {pos : String} {after_ : Array Edge} {g : Option (Nat × Bool)} {kh : IntKind} (hx : (⟨s, bx, X⟩ : St).ev x = some (.sv (.one (.slc k off len sz)))) (hy : (⟨s, bx, X⟩ : St).ev y = some (.sv (.one (.val (.int kh (l : Nat))))))
    (ht : sliceOf P t = some sz) (hh : l < len) (ho : off + l * sz = off') (hn : len - l = len') (hw : Want ops s g) (kont : RunK P n ops os ⟨(d, .sv (.one (.slc k off' len' sz))) :: s, bx, X⟩ (⟨[(d, .sv (.one (.slc k off' len' sz)))], [], []⟩ :: acc) K) :
    RunK P n ops (⟨some d, .slice t x (some y) none none, ty, pos, after_, g⟩ :: os) ⟨s, bx, X⟩ acc K := by
  subst ho hn
  exact RunK.g1 (LOK.fromSlc hx hy ht hh) hw kont
theorem bc_cells_one (l : List UInt8) : ∀ u ∈ (l.map fun c => Value.int .u8 (c.toNat : Nat)), u.oneCell' = true := fun u hu => by
  obtain ⟨c, _, rfl⟩ := List.mem_map.1 hu
  rfl
theorem LOK.copyStr {d k off len : Nat} {t tx e el : TypeId} {x y : Operand} {ty : TypeId} {pos : String} {after_ : Array Edge} {g : Option (Nat × Bool)} {cells : List CV} {row : Bool} {l : List UInt8}
    (hx : σ.ev x = some (.sv (.one (.slc k off len)))) (hk : σ.stat k = some (some ⟨el, cells, row⟩)) (hy : σ.ev y = some (.sv (.one (.val (.string ⟨l.toArray⟩))))) (hu : P.underlying t = some (.slice e)) (hz : sizeIs P e = some 1)
    (hle : l.length ≤ len) (hm : off + l.length ≤ cells.length) :
    LOK P n ops ⟨some d, .call ⟨.builtin .copy, #[x, y], #[t, tx]⟩, ty, pos, after_, g⟩ σ ⟨[(d, .sv (.one (.val (.int .i64 (l.length : Nat)))))], [], [(k, some ⟨el, splice cells off (l.map bc), row⟩)]⟩ :=
  LOK.make fun σ' ha C ι a w hr => by
    have hk' : σ'.stat k = _ := (ha.stat k (.inr (by simp))).trans hk
    have h1 := hr.ev ((ha.ev (x := x) (by simp [Op.operands, Call.operands])).trans hx)
    have h2 : a.eval y = .string ⟨l.toArray⟩ := hr.ev ((ha.ev (x := y) (by simp [Op.operands, Call.operands])).trans hy)
    simp only [LV.rel, SV.rel, CV.rel, hk'] at h1
    obtain ⟨c, h1, hlc, hcs⟩ := h1
    obtain ⟨arr, fr, harr, hthaw, hasz, hrel⟩ := hr.boxes k _ hk' rfl
    have hlen : (l.map fun c => Value.int .u8 (c.toNat : Nat)).length = l.length := List.length_map _
    have hbl : off + l.length ≤ arr.size := by
      have := (Box.rel_part hrel (off := 0) (m := cells.length) (by simp)).1
      simp at this
      omega
    have hst := run_storeCells_at (P := P) hthaw (l.map fun c => Value.int .u8 (c.toNat : Nat)) off 0 arr w rfl harr (by rw [hlen]; simpa using hbl) (bc_cells_one l)
    simp only [Nat.add_zero] at hst
    have hmin : Nat.min l.length len = l.length := Nat.min_eq_left hle
    have hrun : (Builtin.copy_ #[t, tx] ty #[.slice (some ⟨(ι k).1, off, none⟩) len c, .string ⟨l.toArray⟩]).run P w = .ok (goInt l.length) (w.setRow (ι k).1 (splice arr.toList off (l.map fun c => Value.int .u8 (c.toNat : Nat))).toArray) := by
      have hq := run_sizeIs hz w
      simp [Builtin.copy_, run_underlying hu, Builtin.lenOf, Builtin.firstCells, hq, ByteArray.size, hmin]
      rw [List.take_of_length_le (by simp), hst]
      simp [splice]
    have hrc : CVs.rel σ'.stat ι (l.map bc) (l.map fun c => Value.int .u8 (c.toNat : Nat)) := rel_bc l
    refine ⟨goInt l.length, w.setRow (ι k).1 (splice arr.toList off (l.map fun c => Value.int .u8 (c.toNat : Nat))).toArray, ι, by simp [execOp, resolve, invoke, builtin, h1, h2, hrun], ?_, rfl⟩
    exact hr.write hk' rfl rfl (b' := ⟨el, splice cells off (l.map bc), row⟩) (by rw [← hasz]; unfold splice; simp at hbl ⊢; omega) (by simpa using Box.rel_splice hrel hrc (by rw [List.length_map]; exact hm))
theorem K.copyStr {d k off len : Nat} {t tx e el : TypeId} {x y : Operand} {ty : TypeId} {pos : String} {after_ : Array Edge} {g : Option (Nat × Bool)} {cells : List CV} {row : Bool} {l : List UInt8}
    (hx : (⟨s, bx, X⟩ : St).ev x = some (.sv (.one (.slc k off len)))) (hk : (⟨s, bx, X⟩ : St).stat k = some (some ⟨el, cells, row⟩)) (hy : (⟨s, bx, X⟩ : St).ev y = some (.sv (.one (.val (.string ⟨l.toArray⟩))))) (hu : P.underlying t = some (.slice e)) (hz : sizeIs P e = some 1)
    (hle : l.length ≤ len) (hm : off + l.length ≤ cells.length) {r : Int} {nc : List CV} (hr : ((l.length : Nat) : Int) = r) (hc : splice cells off (l.map bc) = nc) (hw : Want ops s g)
    (kont : RunK P n ops os ⟨(d, .sv (.one (.val (.int .i64 r)))) :: s, (k, some ⟨el, nc, row⟩) :: bx, X⟩ (⟨[(d, .sv (.one (.val (.int .i64 r))))], [], [(k, some ⟨el, nc, row⟩)]⟩ :: acc) K) :
    RunK P n ops (⟨some d, .call ⟨.builtin .copy, #[x, y], #[t, tx]⟩, ty, pos, after_, g⟩ :: os) ⟨s, bx, X⟩ acc K := by
  subst hr hc
  exact RunK.gen hw (LOK.copyStr hx hk hy hu hz hle hm) kont
theorem slcBuild_many {t e : TypeId} {m sz : Nat} {z : Array Value} (hu : P.underlying t = some (.slice e)) (hz : (P.info? e).map (fun i => (i.size, i.zero.map (fun z => z.cells))) = some (sz, some z)) (hs : z.size = sz) (hm : m * sz ≤ 16777216) :
    slcBuild P t m = some ((List.replicate m z.toList).flatten, sz, e) := by
  unfold slcBuild
  rw [hu]
  simp only
  cases hi : P.info? e with
  | none => rw [hi] at hz; cases hz
  | some ie =>
    rw [hi] at hz
    simp only [Option.map_some, Option.some.injEq, Prod.mk.injEq] at hz
    obtain ⟨h1, h2⟩ := hz
    cases hzz : ie.zero with
    | none => rw [hzz] at h2; cases h2
    | some zv =>
      rw [hzz] at h2
      simp only [Option.map_some, Option.some.injEq] at h2
      simp only [hzz, h1, h2]
      rw [if_neg (show ¬ m * sz > 2 ^ 24 by omega)]
      have key : ∀ m : Nat, ((List.range (m * sz)).map fun i => z[i % z.size]!) = (List.replicate m z.toList).flatten := by
        intro m
        induction m with
        | zero => simp
        | succ m ih =>
          rw [Nat.succ_mul, List.range_add, List.map_append, ih, List.replicate_succ', List.flatten_append]
          congr 1
          rw [List.map_map]
          simp only [List.flatten_cons, List.flatten_nil, List.append_nil]
          apply List.ext_getElem
          · simp [hs]
          · intro i h3 h4
            have hi : i < sz := by simpa [hs] using h4
            have h5 : i % sz = i := Nat.mod_eq_of_lt hi
            have h6 : i < z.size := by omega
            rw [List.getElem_map, Function.comp_apply, List.getElem_range, hs, Nat.mul_add_mod_self_right, h5, Array.getElem_toList]
            exact getElem!_pos z i h6
      rw [key]
theorem MSpec.plain {f : FuncId} {args : List LV} {r : LV} (h : MSpec P X f args [] r []) : PSpec P X f args r :=
  ⟨h.enters, fun w vals hX hargs => (h.out w vals (fun _ => (0, 0)) (fun _ _ => none) ⟨fun k b hk => (by simp [stOf, look] at hk), fun k b hk => (by simp [stOf, look] at hk), fun k k' b b' hk => (by simp [stOf, look] at hk), hX, ⟨fun k e cs R hk => (by simp [stOf, look] at hk), fun k b o ho => (by cases ho), fun k k' b h => absurd rfl h⟩⟩ hargs).mono fun e w' ⟨v, ι', _, he, hr, _, hp⟩ =>
    ⟨v, he, LV.rel_later (later_noS _ _ _) hr, ⟨hp.os, hp.tape, hp.output, hp.big, fun b hb => hp.frame b hb (fun hl => by
      rcases hl with ⟨k, b0, hk, _⟩ | ⟨k, hk⟩
      · simp [stOf, look] at hk
      · exact hk rfl)⟩⟩⟩
end
end Go.Lg
end
section
namespace Go.Lg.Fld
open Go Go.Lg
abbrev planV (size : Int) (c : CV) : SV := .agg [.val (.int .i64 size), c]
def canB (fs : List Fl) : Bool := decide (fs.length ≤ 8) && fs.all Fl.ok
theorem canB_err {fs : List Fl} (h : canB fs = false) : layErr fs = 1 := by
  unfold canB at h
  unfold layErr
  by_cases h8 : 8 < fs.length
  · rw [if_pos h8]
  · rw [if_neg h8]
    rw [decide_eq_true (show fs.length ≤ 8 by omega), Bool.true_and] at h
    rw [h, if_neg (by simp)]
theorem canB_ok {fs : List Fl} (h : canB fs = true) : fs.length ≤ 8 ∧ fs.all Fl.ok = true ∧ layErr fs = if 256 < rowSize fs then 5 else 0 := by
  unfold canB at h
  rw [Bool.and_eq_true, decide_eq_true_eq] at h
  refine ⟨h.1, h.2, ?_⟩
  unfold layErr
  rw [if_neg (by omega), if_pos h.2]
theorem round_up {n : Nat} (h : isWd n) (a : Nat) : (a + n - 1) / n * n = roundUp a n := by
  unfold roundUp
  rcases h with rfl | rfl | rfl | rfl <;> omega
def blankB (l : List UInt8) : Bool := l.all fun c => c == 0
theorem dropWhile_nil {l : List UInt8} : l.dropWhile (· == (0 : UInt8)) = [] ↔ l.all (fun c => c == 0) = true := by
  induction l with
  | nil => simp
  | cons c t ih =>
    rw [List.dropWhile_cons]
    cases hc : (c == 0) with
    | true => rw [if_pos rfl, ih, List.all_cons, hc, Bool.true_and]
    | false => rw [if_neg (by simp), List.all_cons, hc, Bool.false_and]; simp
theorem trim_blank (l : List UInt8) : (Lib.trimB l 0 == []) = blankB l := by
  unfold blankB
  have h1 : Lib.trimB l 0 = [] ↔ l.all (fun c => c == 0) = true := by
    unfold Lib.trimB Lib.trimLeftB Lib.trimRightB
    rw [dropWhile_nil, List.all_reverse]
    constructor
    · intro h
      have h2 : l.reverse.dropWhile (· == (0 : UInt8)) = [] := by
        cases e : l.reverse.dropWhile (· == (0 : UInt8)) with
        | nil => rfl
        | cons c t =>
          have h3 := List.head_dropWhile_not (fun x => x == (0 : UInt8)) (l := l.reverse) (by rw [e]; simp)
          rw [e] at h
          simp only [List.all_cons, Bool.and_eq_true] at h
          simp only [e, List.head_cons] at h3
          rw [h.1] at h3
          cases h3
      rw [dropWhile_nil, List.all_reverse] at h2
      exact h2
    · intro h
      have h2 : l.reverse.dropWhile (· == (0 : UInt8)) = [] := by rw [dropWhile_nil, List.all_reverse]; exact h
      rw [h2]; rfl
  cases hb : l.all (fun c => c == 0) with
  | true => rw [h1.2 hb]; rfl
  | false =>
    refine beq_eq_false_iff_ne.2 fun e => ?_
    rw [h1.1 e] at hb
    cases hb
end Go.Lg.Fld
namespace Go.Proofs.YtnomcmklhbjfjaaGreatDoor
open Go Go.Lg Go.Lg.Fld
set_option maxRecDepth 100000
variable (X : Nat → Option Obj)
theorem trimRight_spec (l : List UInt8) (hl : l.length < 4611686018427387904) : PSpec Tryz.prog X 104 [Ls l, Ln .u8 0] (Ls (Lib.trimRightB l 0)) := by
  refine PSpec.intro Tryz.func104 rfl (by kernel_rfl) rfl rfl ?_
  intro C
  (refine LWP.seq <| LWP.region (by kernel_rfl) <| kas rfl <| RunK.nil <| LWP.seq <| LWP.block ?_)
  refine LWP.loop (fun m σ => ∃ k : Nat, k ≤ l.length ∧ m = k ∧ (∀ (j : Nat) b, k ≤ j → l[j]? = some b → b = 0) ∧ σ = ⟨[(0, Ls (l.take k)), (1, Ln .u8 0)], [], X⟩) l.length
    ⟨_, Le.of (by exact ⟨by rw [List.take_length]; rfl, rfl, trivial⟩) (by exact trivial) (by exact rfl) (by exact rfl) (by exact rfl), l.length, by omega, rfl, (fun j b hj hb => by rw [List.getElem?_eq_none hj] at hb; cases hb), rfl⟩ ?_
  rintro m σ ⟨k, hk, rfl, hz, rfl⟩
  have hlen : (⟨(l.take m).toArray⟩ : ByteArray).size = m := by show (l.take m).length = m; rw [List.length_take]; omega
  by_cases h0 : m = 0
  · subst h0
    rw [Lib.trimRightB_take l 0 0 hk hz (fun _ h => absurd h (by omega))]
    (refine LWP.seq <| LWP.seq <| LWP.region (by kernel_rfl) <| kmv rfl <| kln rfl <| K.gtr rfl rfl (decide_eq_false (by omega)) .plain <| kmv rfl <| RunK.passed rfl rfl rfl <| RunK.passed rfl rfl rfl <| RunK.passed rfl rfl rfl <| RunK.passed rfl rfl rfl <| RunK.passed rfl rfl rfl <| RunK.passed rfl rfl rfl <| RunK.passed rfl rfl rfl ?_; refine kpf rfl rfl <| RunK.nil <| LWP.condF rfl ?_; refine LWP.exit <| LWP.seq <| LWP.region (by kernel_rfl) <| kmv rfl <| kas rfl <| RunK.nil <| LWP.ret ?_)
    exact ⟨[_], ⟨rfl, trivial⟩, rfl⟩
  · obtain ⟨c, hc⟩ : ∃ c, l[m - 1]? = some c := ⟨_, List.getElem?_eq_getElem (by omega)⟩
    have hc' : (l.take m)[m - 1]? = some c := by rw [List.getElem?_take, if_pos (by omega)]; exact hc
    have hm1 : ((m : Nat) : Int) - 1 = ((m - 1 : Nat) : Int) := by omega
    have hw : IntKind.i64.wrap (((⟨(l.take m).toArray⟩ : ByteArray).size : Nat) - 1 : Int) = ((m - 1 : Nat) : Int) := by rw [hlen, wrap_i64 (by omega)]; omega
    by_cases hcz : c = 0
    · have hcut : (⟨(l.take m).toArray⟩ : ByteArray).extract 0 (m - 1) = ⟨(l.take (m - 1)).toArray⟩ := by rw [str_cut, List.drop_zero, List.take_take]; congr 3; omega
      have hz' : ∀ (j : Nat) b, m - 1 ≤ j → l[j]? = some b → b = 0 := fun j b hj hb => by
        by_cases e : j = m - 1
        · subst e; rw [hc] at hb; cases hb; exact hcz
        · exact hz j b (by omega) hb
      have heq : (((c.toNat : Nat) : Int) == 0) = true := by rw [hcz]; rfl
      (refine LWP.seq <| LWP.seq <| LWP.region (by kernel_rfl) <| kmv rfl <| kln rfl <| K.gtr rfl rfl (decide_eq_true (by rw [hlen]; omega)) .plain <| kmv rfl <| gmv rfl rfl rfl <| gmv rfl rfl rfl <| K.lenStr rfl (.taken rfl rfl) ?_; refine K.sub rfl rfl hw (.taken rfl rfl) ?_; refine K.indexStr rfl rfl (by omega) (str_at (by rw [Int.toNat_natCast]; exact hc')) (.taken rfl rfl) ?_; refine gmv rfl rfl rfl <| K.eql rfl rfl heq (.taken rfl rfl) ?_; refine kpt rfl rfl <| RunK.nil <| LWP.condT rfl ?_; refine LWP.skip ?_; refine LWP.block <| LWP.region (by kernel_rfl) <| kmv rfl <| kmv rfl <| kln rfl <| K.sub rfl rfl hw .plain <| K.sliceStr (l := 0) (h := m - 1) (kl := .i64) (kh := .i64) rfl StrT.u rfl rfl ⟨(by omega), (by omega)⟩ hcut .plain <| kas rfl <| RunK.nil ?_)
      exact ⟨m - 1, _, by omega, Le.of (by exact ⟨rfl, rfl, trivial⟩) (by exact trivial) (by exact rfl) (by exact rfl) (by exact rfl), m - 1, by omega, rfl, hz', rfl⟩
    · have heq : (((c.toNat : Nat) : Int) == 0) = false := beq_eq_false_iff_ne.2 fun e => hcz (by
        have h5 : c.toNat = 0 := by omega
        exact UInt8.toNat_inj.1 h5)
      rw [Lib.trimRightB_take l 0 m hk hz (fun b _ hb => by rw [hc] at hb; cases hb; exact hcz)]
      (refine LWP.seq <| LWP.seq <| LWP.region (by kernel_rfl) <| kmv rfl <| kln rfl <| K.gtr rfl rfl (decide_eq_true (by rw [hlen]; omega)) .plain <| kmv rfl <| gmv rfl rfl rfl <| gmv rfl rfl rfl <| K.lenStr rfl (.taken rfl rfl) ?_; refine K.sub rfl rfl hw (.taken rfl rfl) ?_; refine K.indexStr rfl rfl (by omega) (str_at (by rw [Int.toNat_natCast]; exact hc')) (.taken rfl rfl) ?_; refine gmv rfl rfl rfl <| K.eql rfl rfl heq (.taken rfl rfl) ?_; refine kpt rfl rfl <| RunK.nil <| LWP.condF rfl ?_; refine LWP.exit <| LWP.seq <| LWP.region (by kernel_rfl) <| kmv rfl <| kas rfl <| RunK.nil <| LWP.ret ?_)
      exact ⟨[_], ⟨rfl, trivial⟩, rfl⟩
theorem trimLeft_spec (l : List UInt8) (hl : l.length < 4611686018427387904) : PSpec Tryz.prog X 103 [Ls l, Ln .u8 0] (Ls (Lib.trimLeftB l 0)) := by
  refine PSpec.intro Tryz.func103 rfl (by kernel_rfl) rfl rfl ?_
  intro C
  (refine LWP.seq <| LWP.region (by kernel_rfl) <| kas rfl <| RunK.nil <| LWP.seq <| LWP.block ?_)
  refine LWP.loop (fun m σ => ∃ k : Nat, k ≤ l.length ∧ m = l.length - k ∧ (∀ (j : Nat) b, j < k → l[j]? = some b → b = 0) ∧ σ = ⟨[(0, Ls (l.drop k)), (1, Ln .u8 0)], [], X⟩) l.length
    ⟨_, Le.of (by exact ⟨rfl, rfl, trivial⟩) (by exact trivial) (by exact rfl) (by exact rfl) (by exact rfl), 0, by omega, rfl, (fun j b hj => absurd hj (by omega)), rfl⟩ ?_
  rintro m σ ⟨k, hk, rfl, hz, rfl⟩
  have hlen : (⟨(l.drop k).toArray⟩ : ByteArray).size = l.length - k := by show (l.drop k).length = _; rw [List.length_drop]
  by_cases h0 : k = l.length
  · subst h0
    rw [Lib.trimLeftB_drop l 0 l.length hk hz (fun b hb => by rw [List.getElem?_eq_none (Nat.le_refl _)] at hb; cases hb)]
    (refine LWP.seq <| LWP.seq <| LWP.region (by kernel_rfl) <| kmv rfl <| kln rfl <| K.gtr rfl rfl (decide_eq_false (by rw [hlen]; omega)) .plain <| kmv rfl <| RunK.passed rfl rfl rfl <| RunK.passed rfl rfl rfl <| RunK.passed rfl rfl rfl <| RunK.passed rfl rfl rfl <| kpf rfl rfl <| RunK.nil <| LWP.condF rfl ?_; refine LWP.exit <| LWP.seq <| LWP.region (by kernel_rfl) <| kmv rfl <| kas rfl <| RunK.nil <| LWP.ret ?_)
    exact ⟨[_], ⟨rfl, trivial⟩, rfl⟩
  · obtain ⟨c, hc⟩ : ∃ c, l[k]? = some c := ⟨_, List.getElem?_eq_getElem (by omega)⟩
    have hc' : (l.drop k)[0]? = some c := by rw [List.getElem?_drop]; exact hc
    by_cases hcz : c = 0
    · have hcut : (⟨(l.drop k).toArray⟩ : ByteArray).extract 1 (l.length - k) = ⟨(l.drop (k + 1)).toArray⟩ := by rw [str_cut, List.drop_drop, List.take_of_length_le (by rw [List.length_drop]; omega)]
      have hz' : ∀ (j : Nat) b, j < k + 1 → l[j]? = some b → b = 0 := fun j b hj hb => by
        by_cases e : j = k
        · subst e; rw [hc] at hb; cases hb; exact hcz
        · exact hz j b (by omega) hb
      have heq : (((c.toNat : Nat) : Int) == 0) = true := by rw [hcz]; rfl
      (refine LWP.seq <| LWP.seq <| LWP.region (by kernel_rfl) <| kmv rfl <| kln rfl <| K.gtr rfl rfl (decide_eq_true (by rw [hlen]; omega)) .plain <| kmv rfl <| gmv rfl rfl rfl <| K.indexStr rfl rfl (by omega) (str_at hc') (.taken rfl rfl) ?_; refine gmv rfl rfl rfl <| K.eql rfl rfl heq (.taken rfl rfl) ?_; refine kpt rfl rfl <| RunK.nil <| LWP.condT rfl ?_; refine LWP.skip ?_; refine LWP.block <| LWP.region (by kernel_rfl) <| kmv rfl <| K.sliceStr (l := 1) (h := l.length - k) (kl := .i64) (kh := .i64) rfl StrT.u rfl hlen.symm ⟨(by omega), (by rw [hlen]; omega)⟩ hcut .plain <| kas rfl <| RunK.nil ?_)
      exact ⟨_, _, by omega, Le.of (by exact ⟨rfl, rfl, trivial⟩) (by exact trivial) (by exact rfl) (by exact rfl) (by exact rfl), k + 1, by omega, rfl, hz', rfl⟩
    · have heq : (((c.toNat : Nat) : Int) == 0) = false := beq_eq_false_iff_ne.2 fun e => hcz (by
        have h5 : c.toNat = 0 := by omega
        exact UInt8.toNat_inj.1 h5)
      rw [Lib.trimLeftB_drop l 0 k hk hz (fun b hb => by rw [hc] at hb; cases hb; exact hcz)]
      (refine LWP.seq <| LWP.seq <| LWP.region (by kernel_rfl) <| kmv rfl <| kln rfl <| K.gtr rfl rfl (decide_eq_true (by rw [hlen]; omega)) .plain <| kmv rfl <| gmv rfl rfl rfl <| K.indexStr rfl rfl (by omega) (str_at hc') (.taken rfl rfl) ?_; refine gmv rfl rfl rfl <| K.eql rfl rfl heq (.taken rfl rfl) ?_; refine kpt rfl rfl <| RunK.nil <| LWP.condF rfl ?_; refine LWP.exit <| LWP.seq <| LWP.region (by kernel_rfl) <| kmv rfl <| kas rfl <| RunK.nil <| LWP.ret ?_)
      exact ⟨[_], ⟨rfl, trivial⟩, rfl⟩
theorem trimRight_len (l : List UInt8) : (Lib.trimRightB l 0).length ≤ l.length := by
  unfold Lib.trimRightB
  rw [List.length_reverse]
  exact Nat.le_trans (List.dropWhile_sublist _).length_le (by rw [List.length_reverse]; exact Nat.le_refl _)
theorem trim_spec (l : List UInt8) (hl : l.length < 4611686018427387904) : PSpec Tryz.prog X 95 [Ls l, Ls [0]] (Ls (Lib.trimB l 0)) := by
  refine PSpec.intro Tryz.func95 rfl (by kernel_rfl) rfl rfl ?_
  intro C
  by_cases h : l = []
  · subst h
    (refine LWP.seq <| LWP.region (by kernel_rfl) <| kas rfl <| RunK.nil <| LWP.seq <| LWP.seq <| LWP.region (by kernel_rfl) <| kmv rfl <| kse rfl rfl (strs_eq (r := true) (by decide)) <| kmv rfl <| RunK.passed rfl rfl rfl <| RunK.passed rfl rfl rfl <| kpt rfl rfl <| RunK.nil ?_; refine LWP.condT rfl ?_; refine LWP.seq <| LWP.region (by kernel_rfl) <| kmv rfl <| kas rfl <| RunK.nil <| LWP.ret ?_)
    exact ⟨[_], ⟨rfl, trivial⟩, rfl⟩
  · have hR := trimRight_spec X l hl
    have hL := trimLeft_spec X (Lib.trimRightB l 0) (Nat.lt_of_le_of_lt (trimRight_len l) hl)
    (refine LWP.seq <| LWP.region (by kernel_rfl) <| kas rfl <| RunK.nil <| LWP.seq <| LWP.seq <| LWP.region (by kernel_rfl) <| kmv rfl <| kse rfl rfl (strs_eq (r := false) (beq_eq_false_iff_ne.2 h)) <| kmv rfl <| gmv rfl rfl rfl <| K.strEq rfl rfl (strs_eq (r := false) (by decide)) (.taken rfl rfl) ?_; refine kpf rfl rfl <| RunK.nil <| LWP.condF rfl ?_; refine LWP.skip ?_; refine LWP.seq <| LWP.seq <| LWP.region (by kernel_rfl) <| kmv rfl <| kln rfl <| keq rfl rfl rfl <| kmv rfl <| gmv rfl rfl rfl <| K.indexStr rfl rfl (by omega) (str_at rfl) (.taken rfl rfl) ?_; refine K.lss rfl rfl rfl (.taken rfl rfl) ?_; refine kpt rfl rfl <| RunK.nil <| LWP.condT rfl ?_; refine LWP.seq <| LWP.draws mixed (by kernel_rfl) <| kmv rfl <| kmv rfl <| K.indexStr rfl rfl (by omega) (str_at rfl) .plain <| kca rfl rfl (hR) <| kmv rfl <| K.indexStr rfl rfl (by omega) (str_at rfl) .plain <| kca rfl rfl (hL) <| kas rfl <| RunK.nil <| And.intro (by kernel_rfl) ?_; refine LWP.ret ?_)
    exact ⟨[_], ⟨rfl, trivial⟩, rfl⟩
theorem isBlank_spec (l : List UInt8) (hl : l.length < 4611686018427387904) (r : Bool) (hr : blankB l = r) : PSpec Tryz.prog X 84 [Ls l] (Lb r) := by
  subst hr
  have hT := trim_spec X l hl
  rw [← trim_blank]
  refine PSpec.intro Tryz.func84 rfl (by kernel_rfl) rfl rfl ?_
  intro C
  (refine LWP.seq <| LWP.region (by kernel_rfl) <| kas rfl <| RunK.nil <| LWP.seq <| LWP.region (by kernel_rfl) <| kmv rfl <| kca rfl rfl (hT) <| kse rfl rfl (strs_eq rfl) <| kas rfl <| RunK.nil <| LWP.ret ?_)
  exact ⟨[_], ⟨rfl, trivial⟩, rfl⟩
theorem multipleFrom_spec (a w : Nat) (hw : isWd w) (ha : a < 1000000) : PSpec Tryz.prog X 81 [Ln .i64 (a : Nat), Ln .i64 (w : Nat)] (Ln .i64 (roundUp a w : Nat)) := by
  rw [← round_up hw]
  have hw8 : 1 ≤ w ∧ w ≤ 8 := by rcases hw with e | e | e | e <;> omega
  have hq : ((a + w - 1 : Nat) : Int) / ((w : Nat) : Int) = (((a + w - 1) / w : Nat) : Int) := (Int.natCast_ediv _ _).symm
  have hs : IntKind.i64.wrap ((a : Nat) + (w : Nat) - 1 : Int) = ((a + w - 1 : Nat) : Int) := by rw [wrap_i64 (by omega)]; omega
  have hd : IntKind.i64.wrap (((a + w - 1 : Nat) : Int).tdiv ((w : Nat) : Int)) = (((a + w - 1) / w : Nat) : Int) := by rw [quo_i64 (by omega) (by omega)]; exact hq
  have hb : (a + w - 1) / w * w ≤ a + w - 1 := Nat.div_mul_le_self _ _
  have hm : IntKind.i64.wrap ((((a + w - 1) / w : Nat) : Int) * ((w : Nat) : Int)) = (((a + w - 1) / w * w : Nat) : Int) := by
    rw [← Int.natCast_mul, wrap_i64 (by omega)]
  refine PSpec.intro Tryz.func81 rfl (by kernel_rfl) rfl rfl ?_
  intro C
  (refine LWP.seq <| LWP.region (by kernel_rfl) <| kas rfl <| RunK.nil <| LWP.seq <| LWP.region (by kernel_rfl) <| kmv rfl <| kmv rfl <| kad rfl rfl (wrap_i64 (by omega)) <| K.sub rfl rfl hs .plain <| kmv rfl <| K.quo rfl rfl (by omega) hd .plain <| kmv rfl <| K.mul rfl rfl hm .plain ?_; refine kas rfl <| RunK.nil <| LWP.ret ?_)
  exact ⟨[_], ⟨rfl, trivial⟩, rfl⟩
end Go.Proofs.YtnomcmklhbjfjaaGreatDoor
end
section
namespace Go.Lg.Fld
open Go Go.Lg
theorem take_ok {fs : List Fl} (h : fs.all Fl.ok = true) (i : Nat) : (fs.take i).all Fl.ok = true := by
  rw [List.all_eq_true] at h ⊢
  exact fun f hf => h f (List.mem_of_mem_take hf)
theorem drop_at {α : Type} {l : List α} {i : Nat} {x : α} (h : l[i]? = some x) : l.drop i = x :: l.drop (i + 1) := by
  obtain ⟨hi, e⟩ := List.getElem?_eq_some_iff.1 h
  rw [List.drop_eq_getElem_cons hi, e]
theorem fill_set {α : Type} {S : List α} {z x : α} {n i : Nat} (hS : S.length = i) (hi : i < n) : (S ++ List.replicate (n - i) z).set i x = (S ++ [x]) ++ List.replicate (n - (i + 1)) z := by
  rw [List.set_append_right _ _ (by omega), hS, Nat.sub_self]
  have : n - i = (n - (i + 1)) + 1 := by omega
  rw [this, List.replicate_succ, List.set_cons_zero, List.append_assoc]
  rfl
theorem fill_at {α : Type} {S : List α} {z x : α} {n i : Nat} (hS : S.length = i) : ((S ++ [x]) ++ List.replicate n z)[i]? = some x := by
  rw [List.append_assoc, List.getElem?_append_right (by omega), hS, Nat.sub_self]
  rfl
end Go.Lg.Fld
namespace Go.Proofs.YtnomcmklhbjfjaaGreatDoor
open Go Go.Lg Go.Lg.Fld
set_option maxRecDepth 100000
variable (X : Nat → Option Obj)
theorem canBe_spec (ad : Option Addr) (cap : Nat) (fs : List Fl) (hin : FieldsIn X ad fs) (hbig : fs.length < 4611686018427387904) (r : Bool) (hr : canB fs = r) : PSpec Tryz.prog X 79 [Lx ad fs.length cap] (Lb r) := by
  subst hr
  refine PSpec.intro Tryz.func79 rfl (by kernel_rfl) rfl rfl ?_
  intro C
  by_cases hlong : 8 < fs.length
  · have hc : canB fs = false := by unfold canB; rw [decide_eq_false (by omega), Bool.false_and]
    rw [hc]
    (refine LWP.seq <| LWP.region (by kernel_rfl) <| kas rfl <| RunK.nil <| LWP.seq <| LWP.seq <| LWP.region (by kernel_rfl) <| kmv rfl <| K.lenX rfl SliceT.h rfl .plain ?_; refine K.gtr rfl rfl (decide_eq_true (by omega)) .plain <| RunK.nil <| LWP.condT rfl ?_; refine LWP.seq <| LWP.region (by kernel_rfl) <| kas rfl <| RunK.nil <| LWP.ret ?_)
    exact ⟨[_], ⟨rfl, trivial⟩, rfl⟩
  have h8 : fs.length ≤ 8 := by omega
  have hcb : canB fs = fs.all Fl.ok := by unfold canB; rw [decide_eq_true h8, Bool.true_and]
  rw [hcb]
  (refine LWP.seq <| LWP.region (by kernel_rfl) <| kas rfl <| RunK.nil <| LWP.seq <| LWP.seq <| LWP.region (by kernel_rfl) <| kmv rfl <| K.lenX rfl SliceT.h rfl .plain ?_; refine K.gtr rfl rfl (decide_eq_false (by omega)) .plain <| RunK.nil <| LWP.condF rfl ?_; refine LWP.skip ?_; refine LWP.seq <| LWP.seq <| LWP.region (by kernel_rfl) <| kmv rfl <| K.lenX rfl SliceT.h rfl .plain ?_; refine kmv rfl <| RunK.nil <| LWP.block ?_)
  refine LWP.loop (fun m σ => ∃ i : Nat, i ≤ fs.length ∧ m = fs.length - i ∧ (fs.take i).all Fl.ok = true ∧ σ = ⟨[(8, Lx ad fs.length cap), (9, Ln .i64 (fs.length : Nat)), (10, Ln .i64 (i : Nat))], [], X⟩) fs.length
    ⟨_, Le.of (by exact ⟨rfl, rfl, rfl, trivial⟩) (by exact trivial) (by exact rfl) (by exact rfl) (by exact rfl), 0, by omega, by omega, rfl, rfl⟩ ?_
  rintro m σ ⟨i, hi, rfl, hall, rfl⟩
  by_cases hlt : i < fs.length
  · obtain ⟨f, hf⟩ : ∃ f, fs[i]? = some f := ⟨_, List.getElem?_eq_getElem hlt⟩
    obtain ⟨blk, off, arr, el, fr, rfl, hX, hsz, hcells⟩ := hin.at hf
    have hio : off + Int.toNat (i : Int) * 3 = off + i * 3 := by simp
    have hmem : f ∈ fs := List.mem_of_getElem? hf
    have hsm := hin.small f hmem
    have hB := fSize_spec X f.kind
    cases hok : f.ok with
    | false =>
      have hno : fs.all Fl.ok = false := by
        cases e : fs.all Fl.ok with
        | false => rfl
        | true => rw [List.all_eq_true.1 e f hmem] at hok; cases hok
      rw [hno]
      by_cases h0 : kW f.kind = 0
      · rw [h0] at hB
        (refine LWP.seq <| LWP.region (by kernel_rfl) <| klt rfl rfl (decide_eq_true (by omega)) <| RunK.nil <| LWP.seq <| LWP.condT rfl ?_; refine LWP.skip ?_; refine LWP.seq <| LWP.block <| LWP.seq <| LWP.region (by kernel_rfl) <| K.indexX rfl rfl SliceT.h (by omega) hio .plain <| K.loadXagg rfl hX (by kernel_rfl) hsz hcells .plain <| K.alloc rfl .plain ?_; refine K.storeAll rfl rfl rfl rfl rfl rfl .plain ?_; refine RunK.nil <| LWP.seq <| LWP.region (by kernel_rfl) <| kfa rfl rfl ?_; refine kl1 rfl rfl rfl <| kca rfl rfl (hB) <| keq rfl rfl (beq_iff_eq.2 (by omega)) <| kmv rfl <| RunK.passed rfl rfl rfl <| RunK.passed rfl rfl rfl <| RunK.passed rfl rfl rfl <| kpt rfl rfl <| kmv rfl <| RunK.passed rfl rfl rfl <| RunK.passed rfl rfl rfl <| RunK.passed rfl rfl rfl <| kpt rfl rfl <| RunK.nil ?_; refine LWP.condT rfl ?_; refine LWP.seq <| LWP.region (by kernel_rfl) <| kas rfl <| RunK.nil <| LWP.ret ?_)
        exact ⟨[_], ⟨rfl, trivial⟩, rfl⟩
      · have hk : kK f.kind = true := by
          cases e : kK f.kind with
          | true => rfl
          | false => exact absurd ((kW_zero f.kind).2 e) h0
        by_cases h1 : f.count < 1
        · (refine LWP.seq <| LWP.region (by kernel_rfl) <| klt rfl rfl (decide_eq_true (by omega)) <| RunK.nil <| LWP.seq <| LWP.condT rfl ?_; refine LWP.skip ?_; refine LWP.seq <| LWP.block <| LWP.seq <| LWP.region (by kernel_rfl) <| K.indexX rfl rfl SliceT.h (by omega) hio .plain <| K.loadXagg rfl hX (by kernel_rfl) hsz hcells .plain <| K.alloc rfl .plain ?_; refine K.storeAll rfl rfl rfl rfl rfl rfl .plain ?_; refine RunK.nil <| LWP.seq <| LWP.region (by kernel_rfl) <| kfa rfl rfl ?_; refine kl1 rfl rfl rfl <| kca rfl rfl (hB) <| keq rfl rfl (beq_eq_false_iff_ne.2 (by omega)) <| kmv rfl <| K.fieldAddr rfl rfl (.taken rfl rfl) ?_; refine K.loadOne rfl rfl rfl (.taken rfl rfl) ?_; refine K.lss rfl rfl (decide_eq_true (by omega)) (.taken rfl rfl) ?_; refine kpf rfl rfl <| kmv rfl <| RunK.passed rfl rfl rfl <| RunK.passed rfl rfl rfl <| RunK.passed rfl rfl rfl <| kpt rfl rfl <| RunK.nil <| LWP.condT rfl ?_; refine LWP.seq <| LWP.region (by kernel_rfl) <| kas rfl <| RunK.nil <| LWP.ret ?_)
          exact ⟨[_], ⟨rfl, trivial⟩, rfl⟩
        · have h2 : 8 < f.count := by
            unfold Fl.ok at hok
            rw [hk, decide_eq_true (show 1 ≤ f.count by omega)] at hok
            simpa using hok
          (refine LWP.seq <| LWP.region (by kernel_rfl) <| klt rfl rfl (decide_eq_true (by omega)) <| RunK.nil <| LWP.seq <| LWP.condT rfl ?_; refine LWP.skip ?_; refine LWP.seq <| LWP.block <| LWP.seq <| LWP.region (by kernel_rfl) <| K.indexX rfl rfl SliceT.h (by omega) hio .plain <| K.loadXagg rfl hX (by kernel_rfl) hsz hcells .plain <| K.alloc rfl .plain ?_; refine K.storeAll rfl rfl rfl rfl rfl rfl .plain ?_; refine RunK.nil <| LWP.seq <| LWP.region (by kernel_rfl) <| kfa rfl rfl ?_; refine kl1 rfl rfl rfl <| kca rfl rfl (hB) <| keq rfl rfl (beq_eq_false_iff_ne.2 (by omega)) <| kmv rfl <| K.fieldAddr rfl rfl (.taken rfl rfl) ?_; refine K.loadOne rfl rfl rfl (.taken rfl rfl) ?_; refine K.lss rfl rfl (decide_eq_false (by omega)) (.taken rfl rfl) ?_; refine kpf rfl rfl <| kmv rfl <| K.fieldAddr rfl rfl (.taken rfl rfl) ?_; refine K.loadOne rfl rfl rfl (.taken rfl rfl) ?_; refine K.gtr rfl rfl (decide_eq_true (by omega)) (.taken rfl rfl) ?_; refine kpf rfl rfl <| RunK.nil <| LWP.condT rfl ?_; refine LWP.seq <| LWP.region (by kernel_rfl) <| kas rfl <| RunK.nil <| LWP.ret ?_)
          exact ⟨[_], ⟨rfl, trivial⟩, rfl⟩
    | true =>
      have hall' := take_all hall hf hok
      obtain ⟨hw, hn1, hn8, hnc⟩ := ok_w hok
      have hw1 : 1 ≤ kW f.kind := by have hwk : kW f.kind = f.w := rfl; rcases hw with e | e | e | e <;> omega
      (refine LWP.seq <| LWP.region (by kernel_rfl) <| klt rfl rfl (decide_eq_true (by omega)) <| RunK.nil <| LWP.seq <| LWP.condT rfl ?_; refine LWP.skip ?_; refine LWP.seq <| LWP.block <| LWP.seq <| LWP.region (by kernel_rfl) <| K.indexX rfl rfl SliceT.h (by omega) hio .plain <| K.loadXagg rfl hX (by kernel_rfl) hsz hcells .plain <| K.alloc rfl .plain ?_; refine K.storeAll rfl rfl rfl rfl rfl rfl .plain ?_; refine RunK.nil <| LWP.seq <| LWP.region (by kernel_rfl) <| kfa rfl rfl ?_; refine kl1 rfl rfl rfl <| kca rfl rfl (hB) <| keq rfl rfl (beq_eq_false_iff_ne.2 (by omega)) <| kmv rfl <| K.fieldAddr rfl rfl (.taken rfl rfl) ?_; refine K.loadOne rfl rfl rfl (.taken rfl rfl) ?_; refine K.lss rfl rfl (decide_eq_false (by omega)) (.taken rfl rfl) ?_; refine kpf rfl rfl <| kmv rfl <| K.fieldAddr rfl rfl (.taken rfl rfl) ?_; refine K.loadOne rfl rfl rfl (.taken rfl rfl) ?_; refine K.gtr rfl rfl (decide_eq_false (by omega)) (.taken rfl rfl) ?_; refine kpf rfl rfl <| RunK.nil <| LWP.condF rfl ?_; refine LWP.skip ?_; refine LWP.region (by kernel_rfl) <| kad rfl rfl (wrap_i64 (by omega)) <| kmv rfl <| RunK.nil ?_)
      exact ⟨_, _, by omega, Le.of (by exact ⟨rfl, rfl, rfl, trivial⟩) (by exact trivial) (by exact rfl) (by exact rfl) (by exact rfl), i + 1, by omega, rfl, hall', rfl⟩
  · have e : i = fs.length := by omega
    subst e
    rw [List.take_length] at hall
    rw [hall]
    (refine LWP.seq <| LWP.region (by kernel_rfl) <| klt rfl rfl (decide_eq_false (by omega)) <| RunK.nil <| LWP.seq <| LWP.condF rfl ?_; refine LWP.exit <| LWP.seq <| LWP.region (by kernel_rfl) <| kas rfl <| RunK.nil <| LWP.ret ?_)
    exact ⟨[_], ⟨rfl, trivial⟩, rfl⟩
theorem Of_no (ad : Option Addr) (cap : Nat) (fs : List Fl) (hin : FieldsIn X ad fs) (hbig : fs.length < 4611686018427387904) (h : canB fs = false) :
    PSpec Tryz.prog X 66 [Lx ad fs.length cap] (.tup [planV 0 (.val (.slice none 0 0)), Sn .i64 1]) := by
  have hc := canBe_spec X ad cap fs hin hbig false h
  refine PSpec.intro Tryz.func66 rfl (by kernel_rfl) rfl rfl ?_
  intro C
  (refine LWP.seq <| LWP.region (by kernel_rfl) <| K.alloc rfl .plain ?_; refine kas rfl <| RunK.nil <| LWP.seq <| LWP.seq <| LWP.region (by kernel_rfl) <| kmv rfl <| kca rfl rfl (hc) <| K.not rfl rfl .plain <| RunK.nil <| LWP.condT rfl ?_; refine LWP.seq <| LWP.region (by kernel_rfl) <| K.build rfl rfl (by exact rfl) (by exact nl2 rfl rfl rfl) .plain ?_; refine K.storeAll rfl rfl rfl rfl rfl rfl .plain ?_; refine kas rfl <| RunK.nil <| LWP.ret ?_)
  exact ⟨[_, _], ⟨⟨_, _, rfl, rfl, rfl, .inl ⟨AggT.h, rfl⟩⟩, rfl, trivial⟩, rfl⟩
def ofR (fs : List Fl) : LV := if layErr fs = 0 then .tup [planV (rowSize fs : Nat) (.slc 1000001 0 fs.length 1), Sn .i64 0] else .tup [planV 0 (.val (.slice none 0 0)), Sn .i64 (layErr fs)]
def ofBx (fs : List Fl) : List (Nat × Option Box) := if layErr fs = 0 then [(1000001, some ⟨3, (ntV (startsAt 0 fs)).map .val, false⟩)] else []
set_option maxHeartbeats 3200000 in
theorem Of_can (ad : Option Addr) (cap : Nat) (fs : List Fl) (hin : FieldsIn X ad fs) (hbig : fs.length < 4611686018427387904) (h : canB fs = true) :
    MSpec Tryz.prog X 66 [Lx ad fs.length cap] [] (ofR fs) (ofBx fs) := by
  have hc := canBe_spec X ad cap fs hin hbig true h
  obtain ⟨h8, hall, hle⟩ := canB_ok h
  refine MSpec.intro Tryz.func66 rfl (by kernel_rfl) rfl (by unfold ofR ofBx; split <;> rfl) (by unfold ofBx; split <;> exact (by repeat' (first | refine all_cons_true ?_ ?_ | rfl | exact bytes_inUse | exact vals_inUse | exact mid_inUse rfl))) rfl rfl ?_
  intro C
  have hmk : slcBuild Tryz.prog 75 fs.length = some (List.replicate fs.length (.int .i64 0), 1, 3) := slcBuild_one (by kernel_rfl) (by kernel_rfl) (by omega)
  (refine LWP.seq <| LWP.region (by kernel_rfl) <| K.alloc rfl .plain ?_; refine kas rfl <| RunK.nil <| LWP.seq <| LWP.seq <| LWP.region (by kernel_rfl) <| kmv rfl <| kca rfl rfl (hc) <| K.not rfl rfl .plain <| RunK.nil <| LWP.condF rfl ?_; refine LWP.skip ?_; refine LWP.seq <| LWP.region (by kernel_rfl) <| kmv rfl <| K.lenX rfl SliceT.h rfl .plain ?_; refine K.makeSlc (m := fs.length) (bytes := 8) rfl rfl hmk (by kernel_rfl) (by omega) rfl rfl .plain <| kas rfl <| RunK.nil <| LWP.seq <| LWP.region (by kernel_rfl) <| kas rfl <| kas rfl <| RunK.nil <| LWP.seq <| LWP.seq <| LWP.region (by kernel_rfl) <| kmv rfl <| K.lenX rfl SliceT.h rfl .plain ?_; refine kmv rfl <| RunK.nil <| LWP.block ?_)
  refine LWP.loop (fun m σ => ∃ i : Nat, i ≤ fs.length ∧ m = fs.length - i ∧ σ = ⟨[(2, .sv (.one (.ptr 2 0))), (4, .sv (.one (.slc 17 0 fs.length 1))), (5, Ln .i64 (endAt 0 (fs.take i) : Nat)), (6, Ln .i64 (greatW (fs.take i) : Nat)), (18, Lx ad fs.length cap), (19, Ln .i64 (fs.length : Nat)), (20, Ln .i64 (i : Nat))], [(2, some ⟨123, [.val (.int .i64 0), .val (.slice none 0 0)], false⟩), (17, some ⟨3, (ntV (startsAt 0 (fs.take i)) ++ List.replicate (fs.length - i) (Value.int .i64 0)).map .val, false⟩)], X⟩) fs.length
    ⟨_, Le.of (by exact ⟨rfl, rfl, rfl, rfl, rfl, rfl, rfl, trivial⟩) (by exact ⟨rfl, rfl, trivial⟩) (by exact rfl) (by exact rfl) (by repeat' (first | refine all_cons_true ?_ ?_ | rfl | exact bytes_inUse | exact vals_inUse | exact mid_inUse rfl)), 0, by omega, by omega, rfl⟩ ?_
  rintro m σ ⟨i, hi, rfl, rfl⟩
  have ht := take_ok hall i
  have hSl := starts_len (fs.take i) 0
  have hend := end_le (fs.take i) 0 ht
  have hgw := great_wd (fs.take i) ht
  have htl : (fs.take i).length = i := by rw [List.length_take]; omega
  rw [htl] at hSl hend
  by_cases hlt : i < fs.length
  · obtain ⟨f, hf⟩ : ∃ f, fs[i]? = some f := ⟨_, List.getElem?_eq_getElem hlt⟩
    obtain ⟨blk, off, arr, el, fr, rfl, hX, hsz, hcells⟩ := hin.at hf
    have hio : off + Int.toNat (i : Int) * 3 = off + i * 3 := by simp
    have hi1 : 0 + Int.toNat (i : Int) * 1 = i := by simp
    have hB := fSize_spec X f.kind
    have hS : startsAt 0 (fs.take (i + 1)) = startsAt 0 (fs.take i) ++ [roundUp (endAt 0 (fs.take i)) f.w] := by rw [take_snoc hf, starts_snoc]
    have hA : endAt 0 (fs.take (i + 1)) = roundUp (endAt 0 (fs.take i)) f.w + f.w * f.n := by rw [take_snoc hf, end_snoc]
    have hG : greatW (fs.take (i + 1)) = max (greatW (fs.take i)) f.w := by rw [take_snoc hf, great_snoc]
    obtain ⟨hw, hn1, hn8, hnc⟩ := ok_w (List.all_eq_true.1 hall f (List.mem_of_getElem? hf))
    have hM := multipleFrom_spec X (endAt 0 (fs.take i)) f.w hw (by omega)
    have hR := round_facts hw (endAt 0 (fs.take i))
    have hwk : kW f.kind = f.w := rfl
    rw [hwk] at hB
    have hw8 : 1 ≤ f.w ∧ f.w ≤ 8 := by rcases hw with e | e | e | e <;> omega
    have hwn : f.w * f.n ≤ 64 := Nat.le_trans (Nat.mul_le_mul hw8.2 hn8) (by decide)
    have hfc : f.vals.map CV.val = [.val (.string ⟨f.nm.toArray⟩), .val (.int .i64 f.kind), .val (.int .i64 (f.n : Nat))] := by rw [hnc]; rfl
    rw [hfc] at hcells
    generalize startsAt 0 (fs.take i) = S at *
    generalize endAt 0 (fs.take i) = a at *
    generalize greatW (fs.take i) = g at *
    generalize f.w = w at *
    generalize f.n = n at *
    generalize hT : roundUp a w = T at *
    have hnS : (ntV S).length = i := by simp [ntV, hSl]
    have hlt2 : Nat.blt i (((ntV S ++ List.replicate (fs.length - i) (Value.int .i64 0)).map CV.val).length) = true := by rw [Nat.blt_eq, List.length_map, List.length_append, hnS, List.length_replicate]; omega
    have hset : ((ntV S ++ List.replicate (fs.length - i) (Value.int .i64 0)).map CV.val).set i (.val (.int .i64 (T : Nat))) = (ntV (S ++ [T]) ++ List.replicate (fs.length - (i + 1)) (Value.int .i64 0)).map CV.val := by
      rw [← List.map_set, fill_set hnS hlt]; simp [ntV]
    have hget : ((ntV (S ++ [T]) ++ List.replicate (fs.length - (i + 1)) (Value.int .i64 0)).map CV.val)[i]? = some (.val (.int .i64 (T : Nat))) := by
      rw [List.getElem?_map, show ntV (S ++ [T]) = ntV S ++ [.int .i64 (T : Nat)] by simp [ntV], fill_at hnS]; rfl
    have hmul : IntKind.i64.wrap (((w : Nat) : Int) * ((n : Nat) : Int)) = ((w * n : Nat) : Int) := by rw [← Int.natCast_mul, wrap_i64 (by omega)]
    have hadd : IntKind.i64.wrap (((T : Nat) : Int) + ((w * n : Nat) : Int)) = ((T + w * n : Nat) : Int) := by rw [wrap_i64 (by omega)]; omega
    have hmx : (if ((w : Nat) : Int) > ((g : Nat) : Int) then ((w : Nat) : Int) else ((g : Nat) : Int)) = ((max g w : Nat) : Int) := by split <;> omega
    (refine LWP.seq <| LWP.region (by kernel_rfl) <| klt rfl rfl (decide_eq_true (by omega)) <| RunK.nil <| LWP.seq <| LWP.condT rfl ?_; refine LWP.skip ?_; refine LWP.seq <| LWP.block <| LWP.seq <| LWP.region (by kernel_rfl) <| kmv rfl <| K.indexX rfl rfl SliceT.h (by omega) hio .plain <| K.loadXagg rfl hX (by kernel_rfl) hsz hcells .plain <| K.alloc rfl .plain ?_; refine kas rfl <| K.storeAll rfl rfl rfl rfl rfl rfl .plain ?_; refine RunK.nil <| LWP.seq <| LWP.region (by kernel_rfl) <| kfa rfl rfl ?_; refine kl1 rfl rfl rfl <| kca rfl rfl (hB) <| kas rfl <| RunK.nil <| LWP.seq <| LWP.region (by kernel_rfl) <| kmv rfl <| kmv rfl <| kmv rfl <| kmv rfl <| kca rfl rfl (hM) <| K.indexSlc rfl rfl (by omega) hi1 .plain ?_; refine K.storeOne rfl rfl rfl rfl hlt2 hset .plain <| RunK.nil <| LWP.seq <| LWP.draws mixed (by kernel_rfl) <| kmv rfl <| kmv rfl <| K.indexSlc rfl rfl (by omega) hi1 .plain ?_; refine kl1 rfl rfl hget <| kmv rfl <| kfa rfl rfl ?_; refine kl1 rfl rfl rfl <| K.mul rfl rfl hmul .plain <| kad rfl rfl hadd <| kas rfl <| RunK.nil <| And.intro (by kernel_rfl) ?_; refine LWP.region (by kernel_rfl) <| kmv rfl <| kmv rfl <| K.max2 rfl rfl hmx .plain ?_; refine kas rfl <| RunK.nil <| LWP.region (by kernel_rfl) <| kad rfl rfl (wrap_i64 (by omega)) <| kmv rfl <| RunK.nil ?_)
    exact ⟨_, _, by omega, Le.of (by exact ⟨rfl, rfl, by rw [hA]; rfl, by rw [hG]; rfl, rfl, rfl, rfl, trivial⟩) (by exact ⟨rfl, by rw [hS]; rfl, trivial⟩) (by exact rfl) (by exact rfl) (by repeat' (first | refine all_cons_true ?_ ?_ | rfl | exact bytes_inUse | exact vals_inUse | exact mid_inUse rfl)), i + 1, by omega, rfl, rfl⟩
  · have e : i = fs.length := by omega
    subst e
    rw [List.take_length] at *
    have hM := multipleFrom_spec X (endAt 0 fs) (greatW fs) hgw (by omega)
    rw [show roundUp (endAt 0 fs) (greatW fs) = rowSize fs from rfl] at hM
    unfold ofR ofBx
    rw [hle]
    have hz : (ntV (startsAt 0 fs) ++ List.replicate (fs.length - fs.length) (Value.int .i64 0)).map CV.val = (ntV (startsAt 0 fs)).map CV.val := by rw [Nat.sub_self, List.replicate_zero, List.append_nil]
    rw [hz]
    have hT : rowSize fs < 1000000 := by
      have h1 := round_facts hgw (endAt 0 fs)
      have h2 : greatW fs ≤ 8 := by rcases hgw with e | e | e | e <;> omega
      have h3 : rowSize fs = roundUp (endAt 0 fs) (greatW fs) := rfl
      omega
    generalize rowSize fs = T at *
    by_cases h256 : 256 < T
    · rw [if_pos h256, if_neg (by decide), if_neg (by decide)]
      (refine LWP.seq <| LWP.region (by kernel_rfl) <| klt rfl rfl (decide_eq_false (by omega)) <| RunK.nil <| LWP.seq <| LWP.condF rfl ?_; refine LWP.exit <| LWP.seq <| LWP.region (by kernel_rfl) <| kmv rfl <| kmv rfl <| kca rfl rfl (hM) <| kas rfl <| RunK.nil <| LWP.seq <| LWP.seq <| LWP.region (by kernel_rfl) <| kmv rfl <| K.gtr rfl rfl (decide_eq_true (by omega)) .plain <| RunK.nil ?_; refine LWP.condT rfl ?_; refine LWP.seq <| LWP.region (by kernel_rfl) <| K.build rfl rfl (by exact rfl) (by exact nl2 rfl rfl rfl) .plain ?_; refine K.storeAll rfl rfl rfl rfl rfl rfl .plain ?_; refine kas rfl <| RunK.nil <| LWP.ret ?_)
      exact ⟨[], ⟨[_, _], ⟨⟨_, _, rfl, rfl, rfl, .inl ⟨AggT.h, rfl⟩⟩, rfl, trivial⟩, rfl⟩, trivial, rfl, rfl⟩
    · rw [if_neg h256, if_pos rfl, if_pos rfl]
      (refine LWP.seq <| LWP.region (by kernel_rfl) <| klt rfl rfl (decide_eq_false (by omega)) <| RunK.nil <| LWP.seq <| LWP.condF rfl ?_; refine LWP.exit <| LWP.seq <| LWP.region (by kernel_rfl) <| kmv rfl <| kmv rfl <| kca rfl rfl (hM) <| kas rfl <| RunK.nil <| LWP.seq <| LWP.seq <| LWP.region (by kernel_rfl) <| kmv rfl <| K.gtr rfl rfl (decide_eq_false (by omega)) .plain <| RunK.nil ?_; refine LWP.condF rfl ?_; refine LWP.skip ?_; refine LWP.seq <| LWP.region (by kernel_rfl) <| kmv rfl <| kmv rfl <| K.build rfl rfl (by exact rfl) (by exact nl2 rfl rfl rfl) .plain ?_; refine K.storeAll rfl rfl rfl rfl rfl rfl .plain ?_; refine kas rfl <| RunK.nil <| LWP.ret ?_)
      exact ⟨[(1000001, 17)], ⟨[_, _], ⟨⟨_, _, rfl, rfl, rfl, .inl ⟨AggT.h, rfl⟩⟩, rfl, trivial⟩, rfl⟩, (by repeat' (first | exact trivial | refine And.intro ⟨_, rfl, ?_⟩ ?_ | refine And.intro ⟨_, rfl⟩ ?_ | rfl | exact Box.ren_bytes _ _ _ _ | exact Box.ren_vals _ _ _ _ | exact Box.ren_mid rfl)), rfl, rfl⟩
end Go.Proofs.YtnomcmklhbjfjaaGreatDoor
end
section
namespace Go.Lg.Fld
open Go Go.Lg
theorem elVs_fit {l : List (Int × Nat)} {i : Nat} {e : Int × Nat} (h : l[i]? = some e) : Nat.ble (i * 2 + 2) ((elVs l).map CV.val).length = true := by
  have := (List.getElem?_eq_some_iff.1 h).1
  rw [Nat.ble_eq, List.length_map, elVs_len]; omega
theorem elVs_row {l : List (Int × Nat)} {i : Nat} {e : Int × Nat} (h : l[i]? = some e) : (((elVs l).map CV.val).drop (i * 2)).take 2 = [.val (.int .i64 e.1), .val (.int .i64 (e.2 : Nat))] := by
  obtain ⟨h1, h2⟩ := elVs_at h
  rw [drop_at h1, List.take_succ_cons, drop_at h2]
  rfl
end Go.Lg.Fld
namespace Go.Proofs.YtnomcmklhbjfjaaGreatDoor
open Go Go.Lg Go.Lg.Fld
set_option maxRecDepth 100000
variable (X : Nat → Option Obj)
theorem Of_err (ad : Option Addr) (cap : Nat) (fs : List Fl) (hin : FieldsIn X ad fs) (hbig : fs.length < 4611686018427387904) (h : layErr fs ≠ 0) :
    PSpec Tryz.prog X 66 [Lx ad fs.length cap] (.tup [planV 0 (.val (.slice none 0 0)), Sn .i64 (layErr fs)]) := by
  cases hc : canB fs with
  | false => rw [canB_err hc]; exact Of_no X ad cap fs hin hbig hc
  | true =>
    have := Of_can X ad cap fs hin hbig hc
    unfold ofR ofBx at this
    rw [if_neg h, if_neg h] at this
    exact this.plain
theorem Of_ok (ad : Option Addr) (cap : Nat) (fs : List Fl) (hin : FieldsIn X ad fs) (hbig : fs.length < 4611686018427387904) (h : layErr fs = 0) :
    MSpec Tryz.prog X 66 [Lx ad fs.length cap] [] (.tup [planV (rowSize fs : Nat) (.slc 1000001 0 fs.length 1), Sn .i64 0]) [(1000001, some ⟨3, (ntV (startsAt 0 fs)).map .val, false⟩)] := by
  cases hc : canB fs with
  | false => rw [canB_err hc] at h; exact absurd h (by decide)
  | true =>
    have := Of_can X ad cap fs hin hbig hc
    unfold ofR ofBx at this
    rw [if_pos h, if_pos h] at this
    exact this
theorem Check_spec (ad : Option Addr) (cap : Nat) (fs : List Fl) (hin : FieldsIn X ad fs) (hbig : fs.length < 4611686018427387904) : PSpec Tryz.prog X 70 [Lx ad fs.length cap] (Ln .i64 (layErr fs)) := by
  refine PSpec.intro Tryz.func70 rfl (by kernel_rfl) rfl rfl ?_
  intro C
  by_cases h : layErr fs = 0
  · have hO := Of_ok X ad cap fs hin hbig h
    rw [h]
    generalize rowSize fs = T at *
    generalize startsAt 0 fs = S at *
    (refine LWP.seq <| LWP.region (by kernel_rfl) <| kas rfl <| RunK.nil <| LWP.seq <| LWP.region (by kernel_rfl) <| kmv rfl <| K.callMp [(1000001, 501)] (.tup [planV (T : Nat) (.slc 501 0 fs.length 1), Sn .i64 0]) [(501, some ⟨3, (ntV S).map .val, false⟩)] (hO) rfl rfl (by exact trivial) rfl rfl rfl rfl rfl (by exact (.box rfl (Box.ren_vals _ _ _ _) .nil)) .plain <| kmv rfl <| kex rfl rfl <| kex rfl rfl <| K.alloc rfl .plain ?_; refine K.storeAll rfl rfl rfl rfl rfl rfl .plain ?_; refine kas rfl <| RunK.nil <| LWP.seq <| LWP.region (by kernel_rfl) <| kmv rfl <| kas rfl <| RunK.nil <| LWP.ret ?_)
    exact ⟨[_], ⟨rfl, trivial⟩, rfl⟩
  · have hO := Of_err X ad cap fs hin hbig h
    generalize layErr fs = e at *
    (refine LWP.seq <| LWP.region (by kernel_rfl) <| kas rfl <| RunK.nil <| LWP.seq <| LWP.region (by kernel_rfl) <| kmv rfl <| kca rfl rfl (hO) <| kmv rfl <| kex rfl rfl <| kex rfl rfl <| K.alloc rfl .plain ?_; refine K.storeAll rfl rfl rfl rfl rfl rfl .plain ?_; refine kas rfl <| RunK.nil <| LWP.seq <| LWP.region (by kernel_rfl) <| kmv rfl <| kas rfl <| RunK.nil <| LWP.ret ?_)
    exact ⟨[_], ⟨rfl, trivial⟩, rfl⟩
theorem zeroNums (n : Nat) : (List.replicate n (nmV (qn 0))).flatten = nsV (List.replicate n 0) := by
  unfold nsV
  rw [List.map_replicate]
theorem starts_at : ∀ {l : List Fl} {a i : Nat} {f : Fl}, l[i]? = some f → (startsAt a l)[i]? = some (roundUp (endAt a (l.take i)) f.w)
  | [], _, i, f, h => by simp at h
  | g :: t, a, 0, f, h => by
    simp only [List.getElem?_cons_zero, Option.some.injEq] at h
    subst h; rfl
  | g :: t, a, i + 1, f, h => by
    have := starts_at (l := t) (a := roundUp a g.w + g.w * g.n) (i := i) (f := f) (by simpa using h)
    simpa [startsAt, endAt] using this
set_option maxHeartbeats 3200000 in
theorem slotsOf_spec (ad : Option Addr) (cap : Nat) (fs : List Fl) (T : Nat) (hin : FieldsIn X ad fs) (h8 : fs.length ≤ 8) (hall : fs.all Fl.ok = true) :
    MSpec Tryz.prog X 76 [Lx ad fs.length cap, .sv (planV (T : Nat) (.slc 1000001 0 fs.length 1))] [(1000001, some ⟨3, (ntV (startsAt 0 fs)).map .val, false⟩)] (.sv (.one (.slc 1000002 0 (elemsAt 0 fs).length 2)))
      [(1000001, some ⟨3, (ntV (startsAt 0 fs)).map .val, false⟩), (1000002, some ⟨138, (elVs (elemsAt 0 fs)).map .val, Nat.blt 0 (elemsAt 0 fs).length⟩)] := by
  have hst : ∀ {i : Nat} {f : Fl}, fs[i]? = some f → (startsAt 0 fs)[i]? = some (roundUp (endAt 0 (fs.take i)) f.w) := fun h => starts_at h
  refine MSpec.intro Tryz.func76 rfl (by kernel_rfl) rfl rfl (by exact (by repeat' (first | refine all_cons_true ?_ ?_ | rfl | exact bytes_inUse | exact vals_inUse | exact mid_inUse rfl))) rfl rfl ?_
  intro C
  generalize startsAt 0 fs = S at *
  (refine LWP.seq <| LWP.region (by kernel_rfl) <| K.box rfl rfl rfl .plain <| kas rfl <| RunK.nil <| LWP.seq <| LWP.region (by kernel_rfl) <| K.buildSlc (zs := []) (sz := 2) (e := 138) (by kernel_rfl) rfl rfl rfl rfl rfl rfl .plain <| kas rfl <| RunK.nil <| LWP.seq <| LWP.seq <| LWP.region (by kernel_rfl) <| kmv rfl ?_; refine K.lenX rfl SliceT.h rfl .plain ?_; refine kmv rfl <| RunK.nil <| LWP.block ?_)
  refine LWP.loop (fun m σ => ∃ i : Nat, i ≤ fs.length ∧ m = fs.length - i ∧ σ = ⟨[(3, .sv (.one (.ptr 3 0))), (5, .sv (.one (.slc 500 0 (elemsAt 0 (fs.take i)).length 2))), (10, Lx ad fs.length cap), (11, Ln .i64 (fs.length : Nat)), (12, Ln .i64 (i : Nat))], [(1000001, some ⟨3, (ntV S).map .val, false⟩), (3, some ⟨123, [.val (.int .i64 (T : Nat)), .slc 1000001 0 fs.length 1], false⟩), (500, some ⟨138, (elVs (elemsAt 0 (fs.take i))).map .val, Nat.blt 0 (elemsAt 0 (fs.take i)).length⟩)], X⟩) fs.length
    ⟨_, Le.ofR [(500, 9)] (by exact ⟨rfl, rfl, rfl, rfl, rfl, trivial⟩) (by repeat' (first | exact trivial | refine And.intro ⟨_, rfl, ?_⟩ ?_ | refine And.intro ⟨_, rfl⟩ ?_ | rfl | exact Box.ren_bytes _ _ _ _ | exact Box.ren_vals _ _ _ _ | exact Box.ren_mid rfl)) (by exact rfl) (by exact rfl) (by repeat' (first | refine all_cons_true ?_ ?_ | rfl | exact bytes_inUse | exact vals_inUse | exact mid_inUse rfl)) (by exact rfl) (by exact rfl), 0, by omega, by omega, rfl⟩ ?_
  rintro m σ ⟨i, hi, rfl, rfl⟩
  have ht := take_ok hall i
  have hend := end_le (fs.take i) 0 ht
  have hEl := elems_len (fs.take i) 0 ht
  have htl : (fs.take i).length = i := by rw [List.length_take]; omega
  rw [htl] at hend hEl
  by_cases hlt : i < fs.length
  · obtain ⟨f, hf⟩ : ∃ f, fs[i]? = some f := ⟨_, List.getElem?_eq_getElem hlt⟩
    obtain ⟨blk, off, arr, el, fr, rfl, hX, hsz, hcells⟩ := hin.at hf
    have hio : off + Int.toNat (i : Int) * 3 = off + i * 3 := by simp
    have hi1 : 0 + Int.toNat (i : Int) * 1 = i := by simp
    have hB := fSize_spec X f.kind
    obtain ⟨hw, hn1, hn8, hnc⟩ := ok_w (List.all_eq_true.1 hall f (List.mem_of_getElem? hf))
    have hR := round_facts hw (endAt 0 (fs.take i))
    have hwk : kW f.kind = f.w := rfl
    rw [hwk] at hB
    have hw8 : 1 ≤ f.w ∧ f.w ≤ 8 := by rcases hw with e | e | e | e <;> omega
    have hE : elemsAt 0 (fs.take (i + 1)) = elemsAt 0 (fs.take i) ++ (List.range f.n).map (fun j => (f.kind, roundUp (endAt 0 (fs.take i)) f.w + f.w * j)) := by rw [take_snoc hf, elems_snoc]
    have hfc : f.vals.map CV.val = [.val (.string ⟨f.nm.toArray⟩), .val (.int .i64 f.kind), .val (.int .i64 (f.n : Nat))] := by rw [hnc]; rfl
    rw [hfc] at hcells
    have hgetS : ((ntV S).map CV.val)[i]? = some (.val (.int .i64 (roundUp (endAt 0 (fs.take i)) f.w : Nat))) := by
      rw [List.getElem?_map, show ntV S = S.map (fun n : Nat => Value.int .i64 (n : Nat)) from rfl, List.getElem?_map, hst hf]; rfl
    generalize elemsAt 0 (fs.take i) = E at *
    generalize hT : roundUp (endAt 0 (fs.take i)) f.w = b at *
    generalize endAt 0 (fs.take i) = a at *
    generalize f.w = w at *
    generalize f.n = n at *
    (refine LWP.seq <| LWP.region (by kernel_rfl) <| klt rfl rfl (decide_eq_true (by omega)) <| RunK.nil <| LWP.seq <| LWP.condT rfl ?_; refine LWP.skip ?_; refine LWP.seq <| LWP.block <| LWP.seq <| LWP.region (by kernel_rfl) <| kmv rfl <| K.indexX rfl rfl SliceT.h (by omega) hio .plain <| K.loadXagg rfl hX (by kernel_rfl) hsz hcells .plain <| K.alloc rfl .plain ?_; refine kas rfl <| K.storeAll rfl rfl rfl rfl rfl rfl .plain ?_; refine RunK.nil <| LWP.seq <| LWP.region (by kernel_rfl) <| kfa rfl rfl ?_; refine kl1 rfl rfl rfl <| kmv rfl <| RunK.nil <| LWP.block ?_)
    refine LWP.loop (fun m σ => ∃ j : Nat, j ≤ n ∧ m = n - j ∧ σ = ⟨[(3, .sv (.one (.ptr 3 0))), (5, .sv (.one (.slc 500 0 (E.length + j) 2))), (6, Ln .i64 (i : Nat)), (7, .sv (.one (.ptr 7 0))), (10, Lx (some ⟨blk, off, none⟩) fs.length cap), (11, Ln .i64 (fs.length : Nat)), (12, Ln .i64 (i : Nat)), (18, Ln .i64 (n : Nat)), (19, Ln .i64 (j : Nat))], [(1000001, some ⟨3, (ntV S).map .val, false⟩), (3, some ⟨123, [.val (.int .i64 (T : Nat)), .slc 1000001 0 fs.length 1], false⟩), (500, some ⟨138, (elVs (E ++ (List.range j).map (fun q => (f.kind, b + w * q)))).map .val, Nat.blt 0 (E.length + j)⟩), (7, some ⟨57, [.val (.string ⟨f.nm.toArray⟩), .val (.int .i64 f.kind), .val (.int .i64 (n : Nat))], false⟩)], X⟩) n
      ⟨_, Le.ofR [] (by exact ⟨rfl, rfl, rfl, rfl, rfl, rfl, rfl, rfl, rfl, trivial⟩) (by rw [List.range_zero, List.map_nil, List.append_nil]; exact (by repeat' (first | exact trivial | refine And.intro ⟨_, rfl, ?_⟩ ?_ | refine And.intro ⟨_, rfl⟩ ?_ | rfl | exact Box.ren_bytes _ _ _ _ | exact Box.ren_vals _ _ _ _ | exact Box.ren_mid rfl))) (by exact rfl) (by exact rfl) (by repeat' (first | refine all_cons_true ?_ ?_ | rfl | exact bytes_inUse | exact vals_inUse | exact mid_inUse rfl)) (by exact rfl) (by exact rfl), 0, by omega, rfl, rfl⟩ ?_
    rintro m σ ⟨j, hj, rfl, rfl⟩
    have hwj : w * j ≤ 64 := Nat.le_trans (Nat.mul_le_mul hw8.2 (Nat.le_trans hj hn8)) (by decide)
    by_cases hjn : j < n
    · have hrg : (List.range (j + 1)).map (fun q => (f.kind, b + w * q)) = (List.range j).map (fun q => (f.kind, b + w * q)) ++ [(f.kind, b + w * j)] := by rw [List.range_succ, List.map_append]; rfl
      have hcl2 : ((elVs (E ++ (List.range j).map (fun q => (f.kind, b + w * q)))).map CV.val).length = (E.length + j) * 2 := by rw [List.length_map, elVs_len]; simp
      have hnc2 : (elVs (E ++ (List.range j).map (fun q => (f.kind, b + w * q)))).map CV.val ++ [.val (.int .i64 f.kind), .val (.int .i64 (b + w * j : Nat))] = (elVs (E ++ (List.range (j + 1)).map (fun q => (f.kind, b + w * q)))).map CV.val := by
        rw [hrg, ← List.append_assoc, elVs_app (E ++ _) [_], List.map_append]
        rfl
      have hmul : IntKind.i64.wrap (((j : Nat) : Int) * ((w : Nat) : Int)) = ((w * j : Nat) : Int) := by rw [← Int.natCast_mul, Nat.mul_comm, wrap_i64 (by omega)]
      have hadd : IntKind.i64.wrap (((b : Nat) : Int) + ((w * j : Nat) : Int)) = ((b + w * j : Nat) : Int) := by rw [wrap_i64 (by omega)]; omega
      (refine LWP.seq <| LWP.region (by kernel_rfl) <| klt rfl rfl (decide_eq_true (by omega)) <| RunK.nil <| LWP.seq <| LWP.condT rfl ?_; refine LWP.skip ?_; refine LWP.seq <| LWP.block <| LWP.seq <| LWP.region (by kernel_rfl) <| kmv rfl <| kas rfl <| RunK.nil <| LWP.draws mixed (by kernel_rfl) <| kmv rfl <| kfa rfl rfl ?_; refine kl1 rfl rfl rfl <| kfa rfl rfl ?_; refine kl1 rfl rfl rfl <| kmv rfl <| K.indexSlc rfl rfl (by omega) hi1 .plain ?_; refine kl1 rfl rfl hgetS <| kmv rfl <| kfa rfl rfl ?_; refine kl1 rfl rfl rfl <| kca rfl rfl (hB) <| K.mul rfl rfl hmul .plain <| kad rfl rfl hadd <| K.build rfl rfl (by exact rfl) (by exact nl2 rfl rfl rfl) .plain ?_; refine K.buildSlc (zs := [.int .i64 0, .int .i64 0]) (sz := 2) (e := 138) (by kernel_rfl) rfl rfl rfl rfl rfl rfl .plain <| K.appendSlc (by_ := 16) (e2 := 138) (l2 := [.val (.int .i64 f.kind), .val (.int .i64 (b + w * j : Nat))]) (nl := E.length + (j + 1)) rfl rfl hcl2 rfl rfl (Nat.le_refl _) rfl rfl (by kernel_rfl) (by kernel_rfl) (by omega) (by omega) rfl rfl hnc2 .plain <| kas rfl <| RunK.nil <| And.intro (by kernel_rfl) ?_; refine LWP.region (by kernel_rfl) <| kad rfl rfl (wrap_i64 (by omega)) <| kmv rfl <| RunK.nil ?_)
      exact ⟨_, _, by omega, Le.ofR [(500, 38)] (by exact ⟨rfl, rfl, rfl, rfl, rfl, rfl, rfl, rfl, rfl, trivial⟩) (by repeat' (first | exact trivial | refine And.intro ⟨_, rfl, ?_⟩ ?_ | refine And.intro ⟨_, rfl⟩ ?_ | rfl | exact Box.ren_bytes _ _ _ _ | exact Box.ren_vals _ _ _ _ | exact Box.ren_mid rfl)) (by exact rfl) (by exact rfl) (by repeat' (first | refine all_cons_true ?_ ?_ | rfl | exact bytes_inUse | exact vals_inUse | exact mid_inUse rfl)) (by exact rfl) (by exact rfl), j + 1, by omega, rfl, rfl⟩
    · have e : j = n := by omega
      subst e
      have hEn : (E ++ (List.range j).map (fun q => (f.kind, b + w * q))).length = E.length + j := by simp
      (refine LWP.seq <| LWP.region (by kernel_rfl) <| klt rfl rfl (decide_eq_false (by omega)) <| RunK.nil <| LWP.seq <| LWP.condF rfl ?_; refine LWP.exit <| LWP.region (by kernel_rfl) <| kad rfl rfl (wrap_i64 (by omega)) <| kmv rfl <| RunK.nil ?_)
      exact ⟨_, _, by omega, Le.ofR [] (by exact ⟨rfl, by rw [hE, hEn]; rfl, rfl, rfl, rfl, trivial⟩) (by rw [hE, hEn]; exact (by repeat' (first | exact trivial | refine And.intro ⟨_, rfl, ?_⟩ ?_ | refine And.intro ⟨_, rfl⟩ ?_ | rfl | exact Box.ren_bytes _ _ _ _ | exact Box.ren_vals _ _ _ _ | exact Box.ren_mid rfl))) (by exact rfl) (by exact rfl) (by repeat' (first | refine all_cons_true ?_ ?_ | rfl | exact bytes_inUse | exact vals_inUse | exact mid_inUse rfl)) (by exact rfl) (by exact rfl), i + 1, by omega, rfl, rfl⟩
  · have e : i = fs.length := by omega
    subst e
    rw [List.take_length] at *
    generalize elemsAt 0 fs = E at *
    (refine LWP.seq <| LWP.region (by kernel_rfl) <| klt rfl rfl (decide_eq_false (by omega)) <| RunK.nil <| LWP.seq <| LWP.condF rfl ?_; refine LWP.exit <| LWP.seq <| LWP.region (by kernel_rfl) <| kmv rfl <| kas rfl <| RunK.nil <| LWP.ret ?_)
    exact ⟨[(1000002, 500)], ⟨[_], ⟨rfl, trivial⟩, rfl⟩, (by repeat' (first | exact trivial | refine And.intro ⟨_, rfl, ?_⟩ ?_ | refine And.intro ⟨_, rfl⟩ ?_ | rfl | exact Box.ren_bytes _ _ _ _ | exact Box.ren_vals _ _ _ _ | exact Box.ren_mid rfl)), rfl, rfl⟩
theorem slotEnd_spec (k : Int) (at_ : Nat) (ha : at_ < 1000000) : PSpec Tryz.prog X 83 [.sv (.agg [.val (.int .i64 k), .val (.int .i64 (at_ : Nat))])] (Ln .i64 (at_ + kW k : Nat)) := by
  have hB := fSize_spec X k
  have hw8 := (kfacts k).2.2.2.2
  have hadd : IntKind.i64.wrap (((at_ : Nat) : Int) + ((kW k : Nat) : Int)) = ((at_ + kW k : Nat) : Int) := by rw [wrap_i64 (by omega)]; omega
  refine PSpec.intro Tryz.func83 rfl (by kernel_rfl) rfl rfl ?_
  intro C
  (refine LWP.seq <| LWP.region (by kernel_rfl) <| K.box rfl rfl rfl .plain <| kas rfl <| RunK.nil <| LWP.seq <| LWP.draws mixed (by kernel_rfl) <| kfa rfl rfl ?_; refine kl1 rfl rfl rfl <| kfa rfl rfl ?_; refine kl1 rfl rfl rfl <| kca rfl rfl (hB) <| kad rfl rfl hadd <| kas rfl <| RunK.nil <| And.intro (by kernel_rfl) ?_; refine LWP.ret ?_)
  exact ⟨[_], ⟨rfl, trivial⟩, rfl⟩
end Go.Proofs.YtnomcmklhbjfjaaGreatDoor
end
section
namespace Go.Lg.Fld
open Go Go.Lg
theorem splice_bc (B s : List UInt8) (p : Nat) : splice (B.map bc) p (s.map bc) = (setAt B p s).map bc := by
  unfold splice setAt
  simp [List.map_take, List.map_drop]
end Go.Lg.Fld
namespace Go.Proofs.YtnomcmklhbjfjaaGreatDoor
open Go Go.Lg Go.Lg.Fld
set_option maxRecDepth 100000
variable (X : Nat → Option Obj)
set_option maxHeartbeats 1600000 in
theorem lFit_any (ad ad2 : Option Addr) (cap cap2 : Nat) (fs : List Fl) (ns : List (Bool × Int)) (hin : FieldsIn X ad fs) (hbig : fs.length < 4611686018427387904) (hns : NumsIn X ad2 ns) :
    PSpec Tryz.prog X 73 [Lx ad fs.length cap, Lx ad2 ns.length cap2] (Ln .i64 (fitErr fs ns)) := by
  refine PSpec.intro Tryz.func73 rfl (by kernel_rfl) rfl rfl ?_
  intro C
  unfold fitErr
  by_cases hl : layErr fs = 0
  · have hO := Of_ok X ad cap fs hin hbig hl
    obtain ⟨h8, hall, _⟩ := layErr_facts hl
    have hSl := slotsOf_spec X ad cap fs (rowSize fs) hin h8 hall
    have hEl := elems_len fs 0 hall
    rw [if_pos hl]
    generalize elemsAt 0 fs = E at *
    generalize startsAt 0 fs = S at *
    generalize rowSize fs = T at *
    by_cases hn : E.length = ns.length
    · rw [if_pos hn]
      (refine LWP.seq <| LWP.region (by kernel_rfl) <| kas rfl <| RunK.nil <| LWP.seq <| LWP.region (by kernel_rfl) <| kmv rfl <| K.callMp [(1000001, 501)] (.tup [planV (T : Nat) (.slc 501 0 fs.length 1), Sn .i64 0]) [(501, some ⟨3, (ntV S).map .val, false⟩)] (hO) rfl rfl (by exact trivial) rfl rfl rfl rfl rfl (by exact (.box rfl (Box.ren_vals _ _ _ _) .nil)) .plain <| kmv rfl <| kex rfl rfl <| kex rfl rfl <| K.alloc rfl .plain ?_; refine K.storeAll rfl rfl rfl rfl rfl rfl .plain ?_; refine kas rfl <| RunK.nil <| LWP.seq <| LWP.seq <| LWP.region (by kernel_rfl) <| kmv rfl <| kne rfl rfl ((bne_eq_false_iff_eq.2 (by omega))) <| RunK.nil <| LWP.condF rfl ?_; refine LWP.skip ?_; refine LWP.seq <| LWP.region (by kernel_rfl) <| kmv rfl <| K.loadAll rfl rfl rfl .plain ?_; refine K.callMp [(1000001, 501), (1000002, 502)] (.sv (.one (.slc 502 0 E.length 2))) [(501, some ⟨3, (ntV S).map .val, false⟩), (502, some ⟨138, (elVs E).map .val, Nat.blt 0 E.length⟩)] (hSl) rfl rfl (by exact (And.intro ⟨_, rfl, (Box.ren_vals _ _ _ _)⟩ trivial)) (by exact (all_cons_true vals_inUse rfl)) rfl rfl rfl rfl (by exact (.box rfl (Box.ren_vals _ _ _ _) (.box rfl (Box.ren_vals _ _ _ _) .nil))) .plain <| kas rfl <| RunK.nil <| LWP.seq <| LWP.seq <| LWP.region (by kernel_rfl) <| kmv rfl <| K.lenX rfl SliceT.h rfl .plain ?_; refine kmv rfl <| K.lenSlc rfl SliceT.h rfl .plain ?_; refine kne rfl rfl ((bne_eq_false_iff_eq.2 (by omega))) <| RunK.nil <| LWP.condF rfl ?_; refine LWP.skip ?_; refine LWP.seq <| LWP.seq <| LWP.region (by kernel_rfl) <| kmv rfl <| K.lenSlc rfl SliceT.h rfl .plain ?_; refine kmv rfl <| RunK.nil <| LWP.block ?_)
      refine LWP.loop (fun m σ => ∃ i : Nat, i ≤ E.length ∧ m = E.length - i ∧ ((E.zip ns).take i).all (fun p => fitB p.1.1 p.2.1 p.2.2) = true ∧ σ = ⟨[(1, Lx ad2 ns.length cap2), (26, .sv (.one (.slc 502 0 E.length 2))), (27, Ln .i64 (E.length : Nat)), (28, Ln .i64 (i : Nat))], [(502, some ⟨138, (elVs E).map .val, Nat.blt 0 E.length⟩)], X⟩) E.length
        ⟨_, Le.of (by exact ⟨rfl, rfl, rfl, rfl, trivial⟩) (by exact ⟨rfl, trivial⟩) (by exact rfl) (by exact rfl) (by repeat' (first | refine all_cons_true ?_ ?_ | rfl | exact bytes_inUse | exact vals_inUse | exact mid_inUse rfl)), 0, by omega, rfl, rfl, rfl⟩ ?_
      rintro m σ ⟨i, hi, rfl, hpre, rfl⟩
      by_cases hlt : i < E.length
      · obtain ⟨e, he⟩ : ∃ e, E[i]? = some e := ⟨_, List.getElem?_eq_getElem hlt⟩
        obtain ⟨⟨b, N⟩, hv⟩ : ∃ v, ns[i]? = some v := ⟨_, List.getElem?_eq_getElem (by omega)⟩
        obtain ⟨hN, blk, off, arr, el, fr, rfl, hX, hsz, hcells⟩ := hns.at hv
        have hio : off + Int.toNat (i : Int) * 3 = off + i * 3 := by simp
        have hie : 0 + Int.toNat (i : Int) * 2 = i * 2 := by simp
        have hc := elVs_row he
        have hbl := elVs_fit he
        have hzip := zip_at he hv
        have hF := Fits_spec X e.1 b N hN
        cases hf : fitB e.1 b N with
        | true =>
          have hF' := hF true hf
          (refine LWP.seq <| LWP.region (by kernel_rfl) <| klt rfl rfl (decide_eq_true (by omega)) <| RunK.nil <| LWP.seq <| LWP.condT rfl ?_; refine LWP.skip ?_; refine LWP.seq <| LWP.block <| LWP.seq <| LWP.region (by kernel_rfl) <| kmv rfl <| K.indexSlc rfl rfl (by omega) hie .plain ?_; refine K.loadPart rfl rfl hbl hc .plain ?_; refine K.alloc rfl .plain ?_; refine kas rfl <| K.storeAll rfl rfl rfl rfl rfl rfl .plain ?_; refine RunK.nil <| LWP.seq <| LWP.draws mixed (by kernel_rfl) <| kfa rfl rfl ?_; refine kl1 rfl rfl rfl <| kmv rfl <| kmv rfl <| K.indexX rfl rfl SliceT.h (by omega) hio .plain <| K.loadXagg rfl hX (by kernel_rfl) hsz hcells .plain <| kca rfl rfl (hF') <| K.not rfl rfl .plain <| RunK.nil <| And.intro (by kernel_rfl) ?_; refine LWP.condF rfl ?_; refine LWP.skip ?_; refine LWP.region (by kernel_rfl) <| kad rfl rfl (wrap_i64 (by omega)) <| kmv rfl <| RunK.nil ?_)
          exact ⟨_, _, by omega, Le.of (by exact ⟨rfl, rfl, rfl, rfl, trivial⟩) (by exact ⟨rfl, trivial⟩) (by exact rfl) (by exact rfl) (by repeat' (first | refine all_cons_true ?_ ?_ | rfl | exact bytes_inUse | exact vals_inUse | exact mid_inUse rfl)), i + 1, by omega, rfl, by rw [take_snoc hzip, List.all_append, hpre]; simp [hf], rfl⟩
        | false =>
          have hF' := hF false hf
          have hno : fitAll E ns = false := by
            unfold fitAll
            cases h : (E.zip ns).all (fun p => fitB p.1.1 p.2.1 p.2.2) with
            | false => rfl
            | true => have := List.all_eq_true.1 h _ (List.mem_of_getElem? hzip); rw [hf] at this; cases this
          rw [hno]
          (refine LWP.seq <| LWP.region (by kernel_rfl) <| klt rfl rfl (decide_eq_true (by omega)) <| RunK.nil <| LWP.seq <| LWP.condT rfl ?_; refine LWP.skip ?_; refine LWP.seq <| LWP.block <| LWP.seq <| LWP.region (by kernel_rfl) <| kmv rfl <| K.indexSlc rfl rfl (by omega) hie .plain ?_; refine K.loadPart rfl rfl hbl hc .plain ?_; refine K.alloc rfl .plain ?_; refine kas rfl <| K.storeAll rfl rfl rfl rfl rfl rfl .plain ?_; refine RunK.nil <| LWP.seq <| LWP.draws mixed (by kernel_rfl) <| kfa rfl rfl ?_; refine kl1 rfl rfl rfl <| kmv rfl <| kmv rfl <| K.indexX rfl rfl SliceT.h (by omega) hio .plain <| K.loadXagg rfl hX (by kernel_rfl) hsz hcells .plain <| kca rfl rfl (hF') <| K.not rfl rfl .plain <| RunK.nil <| And.intro (by kernel_rfl) ?_; refine LWP.condT rfl ?_; refine LWP.seq <| LWP.region (by kernel_rfl) <| kas rfl <| RunK.nil <| LWP.ret ?_)
          exact ⟨[_], ⟨rfl, trivial⟩, rfl⟩
      · have e : i = E.length := by omega
        subst e
        have hyes : fitAll E ns = true := by
          rw [List.take_of_length_le (by rw [List.length_zip]; omega)] at hpre
          exact hpre
        rw [hyes]
        (refine LWP.seq <| LWP.region (by kernel_rfl) <| klt rfl rfl (decide_eq_false (by omega)) <| RunK.nil <| LWP.seq <| LWP.condF rfl ?_; refine LWP.exit <| LWP.seq <| LWP.region (by kernel_rfl) <| kas rfl <| RunK.nil <| LWP.ret ?_)
        exact ⟨[_], ⟨rfl, trivial⟩, rfl⟩
    · rw [if_neg hn]
      (refine LWP.seq <| LWP.region (by kernel_rfl) <| kas rfl <| RunK.nil <| LWP.seq <| LWP.region (by kernel_rfl) <| kmv rfl <| K.callMp [(1000001, 501)] (.tup [planV (T : Nat) (.slc 501 0 fs.length 1), Sn .i64 0]) [(501, some ⟨3, (ntV S).map .val, false⟩)] (hO) rfl rfl (by exact trivial) rfl rfl rfl rfl rfl (by exact (.box rfl (Box.ren_vals _ _ _ _) .nil)) .plain <| kmv rfl <| kex rfl rfl <| kex rfl rfl <| K.alloc rfl .plain ?_; refine K.storeAll rfl rfl rfl rfl rfl rfl .plain ?_; refine kas rfl <| RunK.nil <| LWP.seq <| LWP.seq <| LWP.region (by kernel_rfl) <| kmv rfl <| kne rfl rfl ((bne_eq_false_iff_eq.2 (by omega))) <| RunK.nil <| LWP.condF rfl ?_; refine LWP.skip ?_; refine LWP.seq <| LWP.region (by kernel_rfl) <| kmv rfl <| K.loadAll rfl rfl rfl .plain ?_; refine K.callMp [(1000001, 501), (1000002, 502)] (.sv (.one (.slc 502 0 E.length 2))) [(501, some ⟨3, (ntV S).map .val, false⟩), (502, some ⟨138, (elVs E).map .val, Nat.blt 0 E.length⟩)] (hSl) rfl rfl (by exact (And.intro ⟨_, rfl, (Box.ren_vals _ _ _ _)⟩ trivial)) (by exact (all_cons_true vals_inUse rfl)) rfl rfl rfl rfl (by exact (.box rfl (Box.ren_vals _ _ _ _) (.box rfl (Box.ren_vals _ _ _ _) .nil))) .plain <| kas rfl <| RunK.nil <| LWP.seq <| LWP.seq <| LWP.region (by kernel_rfl) <| kmv rfl <| K.lenX rfl SliceT.h rfl .plain ?_; refine kmv rfl <| K.lenSlc rfl SliceT.h rfl .plain ?_; refine kne rfl rfl (bne_iff_ne.2 (by omega)) <| RunK.nil <| LWP.condT rfl ?_; refine LWP.seq <| LWP.region (by kernel_rfl) <| kas rfl <| RunK.nil <| LWP.ret ?_)
      exact ⟨[_], ⟨rfl, trivial⟩, rfl⟩
  · have hO := Of_err X ad cap fs hin hbig hl
    rw [if_neg hl]
    generalize layErr fs = e at *
    (refine LWP.seq <| LWP.region (by kernel_rfl) <| kas rfl <| RunK.nil <| LWP.seq <| LWP.region (by kernel_rfl) <| kmv rfl <| kca rfl rfl (hO) <| kmv rfl <| kex rfl rfl <| kex rfl rfl <| K.alloc rfl .plain ?_; refine K.storeAll rfl rfl rfl rfl rfl rfl .plain ?_; refine kas rfl <| RunK.nil <| LWP.seq <| LWP.seq <| LWP.region (by kernel_rfl) <| kmv rfl <| kne rfl rfl (bne_iff_ne.2 (by omega)) <| RunK.nil <| LWP.condT rfl ?_; refine LWP.seq <| LWP.region (by kernel_rfl) <| kmv rfl <| kas rfl <| RunK.nil <| LWP.ret ?_)
    exact ⟨[_], ⟨rfl, trivial⟩, rfl⟩
theorem lFit_spec (ad ad2 : Option Addr) (cap cap2 : Nat) (fs : List Fl) (ns : List (Bool × Int)) (hin : FieldsIn X ad fs) (hbig : fs.length < 4611686018427387904) (hns : NumsIn X ad2 ns) (_ : ns.length < 4611686018427387904) :
    PSpec Tryz.prog X 73 [Lx ad fs.length cap, Lx ad2 ns.length cap2] (Ln .i64 (fitErr fs ns)) := lFit_any X ad ad2 cap cap2 fs ns hin hbig hns
def packR (fs : List Fl) (ns : List (Bool × Int)) : List UInt8 := if fitErr fs ns = 0 then packB fs ns else []
set_option maxHeartbeats 1600000 in
theorem lPack_spec (ad ad2 : Option Addr) (cap cap2 : Nat) (fs : List Fl) (ns : List (Bool × Int)) (hin : FieldsIn X ad fs) (hbig : fs.length < 4611686018427387904) (hns : NumsIn X ad2 ns) (hnb : ns.length < 4611686018427387904) :
    PSpec Tryz.prog X 63 [Lx ad fs.length cap, Lx ad2 ns.length cap2] (.tup [Ss (packR fs ns), Sn .i64 (fitErr fs ns)]) := by
  have hFit := lFit_spec X ad ad2 cap cap2 fs ns hin hbig hns hnb
  refine PSpec.intro Tryz.func63 rfl (by kernel_rfl) rfl rfl ?_
  intro C
  unfold packR
  by_cases h : fitErr fs ns = 0
  · rw [if_pos h, h]
    rw [h] at hFit
    obtain ⟨hl, hn, hfit⟩ := fitErr_facts h
    have hO := Of_ok X ad cap fs hin hbig hl
    obtain ⟨h8, hall, hT⟩ := layErr_facts hl
    have hSl := slotsOf_spec X ad cap fs (rowSize fs) hin h8 hall
    have hW := within_row hall
    have hEl := elems_len fs 0 hall
    unfold packB
    generalize elemsAt 0 fs = E at *
    generalize startsAt 0 fs = S at *
    generalize rowSize fs = T at *
    have hmk : slcBuild Tryz.prog 52 T = some (List.replicate T (.int .u8 0), 1, 5) := slcBuild_one (by kernel_rfl) (by kernel_rfl) (by omega)
    have hz0 : (List.replicate T (Value.int .u8 0)).map CV.val = (List.replicate T (0 : UInt8)).map bc := by rw [List.map_replicate, List.map_replicate]; rfl
    (refine LWP.seq <| LWP.region (by kernel_rfl) <| kas rfl <| kas rfl <| RunK.nil <| LWP.seq <| LWP.seq <| LWP.region (by kernel_rfl) <| kmv rfl <| kmv rfl <| kca rfl rfl (hFit) <| kas rfl <| RunK.nil <| LWP.seq ?_; refine LWP.region (by kernel_rfl) <| kmv rfl <| kne rfl rfl ((bne_eq_false_iff_eq.2 (by omega))) <| RunK.nil <| LWP.condF rfl ?_; refine LWP.skip ?_; refine LWP.seq <| LWP.region (by kernel_rfl) <| kmv rfl <| K.callMp [(1000001, 501)] (.tup [planV (T : Nat) (.slc 501 0 fs.length 1), Sn .i64 0]) [(501, some ⟨3, (ntV S).map .val, false⟩)] (hO) rfl rfl (by exact trivial) rfl rfl rfl rfl rfl (by exact (.box rfl (Box.ren_vals _ _ _ _) .nil)) .plain <| kmv rfl <| kex rfl rfl <| kex rfl rfl <| K.alloc rfl .plain ?_; refine K.storeAll rfl rfl rfl rfl rfl rfl .plain ?_; refine kas rfl <| RunK.nil <| LWP.seq <| LWP.region (by kernel_rfl) <| kfa rfl rfl ?_; refine kl1 rfl rfl rfl <| K.makeSlc (m := T) (bytes := 1) rfl rfl hmk (by kernel_rfl) (by omega) hz0 rfl .plain <| kas rfl <| RunK.nil <| LWP.seq <| LWP.seq <| LWP.region (by kernel_rfl) <| kmv rfl <| K.loadAll rfl rfl rfl .plain ?_; refine K.callMp [(1000001, 501), (1000002, 502)] (.sv (.one (.slc 502 0 E.length 2))) [(501, some ⟨3, (ntV S).map .val, false⟩), (502, some ⟨138, (elVs E).map .val, Nat.blt 0 E.length⟩)] (hSl) rfl rfl (by exact (And.intro ⟨_, rfl, (Box.ren_vals _ _ _ _)⟩ trivial)) (by exact (all_cons_true vals_inUse rfl)) rfl rfl rfl rfl (by exact (.box rfl (Box.ren_vals _ _ _ _) (.box rfl (Box.ren_vals _ _ _ _) .nil))) .plain <| K.lenSlc rfl SliceT.h rfl .plain ?_; refine kmv rfl <| RunK.nil <| LWP.block ?_)
    refine LWP.loop (fun m σ => ∃ i : Nat, i ≤ E.length ∧ m = E.length - i ∧ σ = ⟨[(1, Lx ad2 ns.length cap2), (9, .sv (.one (.slc 500 0 T 1))), (30, .sv (.one (.slc 502 0 E.length 2))), (31, Ln .i64 (E.length : Nat)), (32, Ln .i64 (i : Nat))], [(502, some ⟨138, (elVs E).map .val, Nat.blt 0 E.length⟩), (500, some ⟨5, (packE (E.take i) (ns.take i) (List.replicate T 0)).map bc, false⟩)], X⟩) E.length
      ⟨_, Le.ofR [(500, 27)] (by exact ⟨rfl, rfl, rfl, rfl, rfl, trivial⟩) (by repeat' (first | exact trivial | refine And.intro ⟨_, rfl, ?_⟩ ?_ | refine And.intro ⟨_, rfl⟩ ?_ | rfl | exact Box.ren_bytes _ _ _ _ | exact Box.ren_vals _ _ _ _ | exact Box.ren_mid rfl)) (by exact rfl) (by exact rfl) (by repeat' (first | refine all_cons_true ?_ ?_ | rfl | exact bytes_inUse | exact vals_inUse | exact mid_inUse rfl)) (by exact rfl) (by exact rfl), 0, by omega, rfl, rfl⟩ ?_
    rintro m σ ⟨i, hi, rfl, rfl⟩
    have hbl : (packE (E.take i) (ns.take i) (List.replicate T 0)).length = T := packE_len (fun e he => hW e (List.mem_of_mem_take he)) (by rw [List.length_replicate])
    by_cases hlt : i < E.length
    · obtain ⟨e, he⟩ : ∃ e, E[i]? = some e := ⟨_, List.getElem?_eq_getElem hlt⟩
      obtain ⟨⟨b, N⟩, hv⟩ : ∃ v, ns[i]? = some v := ⟨_, List.getElem?_eq_getElem (by omega)⟩
      obtain ⟨hN, blk, off, arr, el, fr, rfl, hX, hsz, hcells⟩ := hns.at hv
      have hio : off + Int.toNat (i : Int) * 3 = off + i * 3 := by simp
      have hie : 0 + Int.toNat (i : Int) * 2 = i * 2 := by simp
      have hc := elVs_row he
      have hbf := elVs_fit he
      obtain ⟨g1, g2, g3⟩ := fitAll_at hfit he hv
      have hP := Put_q X e.1 (zv b N) g2 g3
      rw [← LI_q hN g1] at hP
      have hnext : packE (E.take (i + 1)) (ns.take (i + 1)) (List.replicate T 0) = setAt (packE (E.take i) (ns.take i) (List.replicate T 0)) e.2 (numB e.1 (b, N)) := by
        rw [take_snoc he, take_snoc hv, packE_snoc]
        rw [List.length_take, List.length_take]; omega
      have hWe := (hW e (List.mem_of_getElem? he)).2
      have hw1 : 1 ≤ kW e.1 := by rcases kW_in g2 with x | x | x | x <;> omega
      have hsl : (leB (kW e.1) (wdK e.1 (zv b N))).length = kW e.1 := leB_length _ _
      have hnb2 : numB e.1 (b, N) = leB (kW e.1) (wdK e.1 (zv b N)) := rfl
      rw [hnb2] at hnext
      have hw8 := (kfacts e.1).2.2.2.2
      have hspl := splice_bc (packE (E.take i) (ns.take i) (List.replicate T 0)) (leB (kW e.1) (wdK e.1 (zv b N))) e.2
      rw [← hnext] at hspl
      generalize leB (kW e.1) (wdK e.1 (zv b N)) = s at *
      generalize packE (E.take i) (ns.take i) (List.replicate T 0) = B at *
      (refine LWP.seq <| LWP.region (by kernel_rfl) <| klt rfl rfl (decide_eq_true (by omega)) <| RunK.nil <| LWP.seq <| LWP.condT rfl ?_; refine LWP.skip ?_; refine LWP.seq <| LWP.block <| LWP.seq <| LWP.region (by kernel_rfl) <| kmv rfl <| K.indexSlc rfl rfl (by omega) hie .plain ?_; refine K.loadPart rfl rfl hbf hc .plain ?_; refine K.alloc rfl .plain ?_; refine kas rfl <| K.storeAll rfl rfl rfl rfl rfl rfl .plain ?_; refine RunK.nil <| LWP.seq <| LWP.draws mixed (by kernel_rfl) <| kfa rfl rfl ?_; refine kl1 rfl rfl rfl <| kmv rfl <| kmv rfl <| K.indexX rfl rfl SliceT.h (by omega) hio .plain <| K.loadXagg rfl hX (by kernel_rfl) hsz hcells .plain <| kca rfl rfl (hP) <| kmv rfl <| kex rfl rfl <| kex rfl rfl <| kas rfl <| kas rfl <| RunK.nil <| And.intro (by kernel_rfl) ?_; refine LWP.region (by kernel_rfl) <| kmv rfl <| kfa rfl rfl ?_; refine kl1 rfl rfl rfl <| K.fromSlc (l := e.2) (kh := .i64) (off' := e.2) rfl rfl SliceT.h (by omega) (by omega) rfl .plain ?_; refine kmv rfl <| K.copyStr (e := 5) rfl rfl rfl (by kernel_rfl) (by kernel_rfl) (by omega) (by rw [List.length_map]; omega) rfl hspl .plain ?_; refine RunK.nil <| LWP.region (by kernel_rfl) <| kad rfl rfl (wrap_i64 (by omega)) <| kmv rfl <| RunK.nil ?_)
      exact ⟨_, _, by omega, Le.of (by exact ⟨rfl, rfl, rfl, rfl, rfl, trivial⟩) (by exact ⟨rfl, rfl, trivial⟩) (by exact rfl) (by exact rfl) (by repeat' (first | refine all_cons_true ?_ ?_ | rfl | exact bytes_inUse | exact vals_inUse | exact mid_inUse rfl)), i + 1, by omega, rfl, rfl⟩
    · have e : i = E.length := by omega
      subst e
      rw [List.take_length, List.take_of_length_le (Nat.le_of_eq hn.symm)] at *
      generalize packE E ns (List.replicate T 0) = B at *
      have hlen : 0 + T ≤ (B.map bc).length := by rw [List.length_map]; omega
      have hcut : ((B.map bc).drop 0).take T = B.map bc := by rw [List.drop_zero, List.take_of_length_le (by rw [List.length_map]; omega)]
      (refine LWP.seq <| LWP.region (by kernel_rfl) <| klt rfl rfl (decide_eq_false (by omega)) <| RunK.nil <| LWP.seq <| LWP.condF rfl ?_; refine LWP.exit <| LWP.seq <| LWP.region (by kernel_rfl) <| kmv rfl <| K.convStr rfl rfl (by kernel_rfl) StrT.u hlen hcut .plain <| kas rfl <| kas rfl <| RunK.nil <| LWP.ret ?_)
      exact ⟨[_, _], ⟨rfl, rfl, trivial⟩, rfl⟩
  · rw [if_neg h]
    generalize fitErr fs ns = e at *
    (refine LWP.seq <| LWP.region (by kernel_rfl) <| kas rfl <| kas rfl <| RunK.nil <| LWP.seq <| LWP.seq <| LWP.region (by kernel_rfl) <| kmv rfl <| kmv rfl <| kca rfl rfl (hFit) <| kas rfl <| RunK.nil <| LWP.seq ?_; refine LWP.region (by kernel_rfl) <| kmv rfl <| kne rfl rfl (bne_iff_ne.2 (by omega)) <| RunK.nil <| LWP.condT rfl ?_; refine LWP.seq <| LWP.region (by kernel_rfl) <| kmv rfl <| kas rfl <| kas rfl <| RunK.nil <| LWP.ret ?_)
    exact ⟨[_, _], ⟨rfl, rfl, trivial⟩, rfl⟩
end Go.Proofs.YtnomcmklhbjfjaaGreatDoor
end
