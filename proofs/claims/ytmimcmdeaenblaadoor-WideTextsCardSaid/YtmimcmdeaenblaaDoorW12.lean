/- A piece of a proof over this program: contracts of its functions, and a logic to prove them by. -/
import Derived.Test.YtmimcmdeaenblaaDoorW11
namespace Go.Lg
open Go Go.RowKit
theorem str_add (a b : List UInt8) : (⟨a.toArray⟩ : ByteArray) ++ ⟨b.toArray⟩ = ⟨(a ++ b).toArray⟩ := by
  apply ByteArray.ext
  rw [ByteArray.data_append]
  simp
end Go.Lg
namespace Go.Lg.Dec
open Go Go.Lib
/-- k digits -/
def pad : Nat → Nat → List UInt8
  | 0, _ => []
  | k + 1, u => pad k (u / 10) ++ [UInt8.ofNat (48 + u % 10)]
theorem dec_pad : ∀ (k U L : Nat), 0 < U → L < 10 ^ k → decDigits (U * 10 ^ k + L) = decDigits U ++ pad k L
  | 0, U, L, _, hL => by
    have : L = 0 := by simpa using hL
    subst this
    simp [pad]
  | k + 1, U, L, hU, hL => by
    have hp : 0 < 10 ^ k := Nat.pow_pos (by decide)
    have h1 : U * 10 ^ (k + 1) + L = (U * 10 ^ k + L / 10) * 10 + L % 10 := by rw [Nat.pow_succ, ← Nat.mul_assoc, Nat.add_mul]; omega
    have hb : ¬ U * 10 ^ (k + 1) + L < 10 := by
      have : 1 * 10 ^ k ≤ U * 10 ^ k := Nat.mul_le_mul_right _ hU
      omega
    rw [decDigits, dif_neg hb, h1, show ((U * 10 ^ k + L / 10) * 10 + L % 10) / 10 = U * 10 ^ k + L / 10 by omega, show ((U * 10 ^ k + L / 10) * 10 + L % 10) % 10 = L % 10 by omega,
      dec_pad k U (L / 10) hU (by rw [Nat.pow_succ] at hL; omega), List.append_assoc]
    rfl
theorem rep_snoc (k : Nat) : repeatL [48] k ++ [48] = repeatL [48] (k + 1) := by rw [repeatL_add, repeatL_one]
theorem pad_rep : ∀ (k L : Nat), L < 10 ^ (k + 1) → pad (k + 1) L = repeatL [48] (k + 1 - nDigits L) ++ decDigits L
  | 0, L, hL => by
    have h : L < 10 := by simpa using hL
    rw [nDigits_small h, decDigits_one h]
    simp [pad, repeatL, Nat.mod_eq_of_lt h]
  | k + 1, L, hL => by
    have hL' : L / 10 < 10 ^ (k + 1) := by rw [Nat.pow_succ] at hL; omega
    have ih := pad_rep k (L / 10) hL'
    show pad (k + 1) (L / 10) ++ [UInt8.ofNat (48 + L % 10)] = _
    rw [ih]
    by_cases h : L < 10
    · rw [nDigits_small h, show L / 10 = 0 by omega, nDigits_small (show 0 < 10 by decide), decDigits_one (show 0 < 10 by decide), decDigits_one h, Nat.mod_eq_of_lt h]
      show repeatL [48] (k + 1 - 1) ++ [48] ++ _ = _
      rw [rep_snoc]
      rfl
    · rw [nDigits_big h, show k + 1 + 1 - (nDigits (L / 10) + 1) = k + 1 - nDigits (L / 10) by omega, List.append_assoc]
      congr 1
      conv => rhs; rw [decDigits, dif_neg h]
theorem nDigits_le : ∀ (k u : Nat), u < 10 ^ (k + 1) → nDigits u ≤ k + 1
  | 0, u, h => by rw [nDigits_small (by simpa using h)]; omega
  | k + 1, u, h => by
    by_cases c : u < 10
    · rw [nDigits_small c]; omega
    · rw [nDigits_big c]
      have := nDigits_le k (u / 10) (by rw [Nat.pow_succ] at h; omega)
      omega
/-- digits, so many at most -/
def decF : Nat → Nat → List UInt8
  | 0, _ => []
  | k + 1, u => if u < 10 then [UInt8.ofNat (48 + u)] else decF k (u / 10) ++ [UInt8.ofNat (48 + u % 10)]
theorem dec_F : ∀ (k u : Nat), u < 10 ^ (k + 1) → decDigits u = decF (k + 1) u
  | 0, u, h => by
    have h : u < 10 := by simpa using h
    rw [decDigits_one h]
    simp [decF, h]
  | k + 1, u, h => by
    by_cases c : u < 10
    · rw [decDigits_one c]
      simp [decF, c]
    · rw [decDigits, dif_neg c, dec_F k (u / 10) (by rw [Nat.pow_succ] at h; omega)]
      show _ = if u < 10 then _ else _
      rw [if_neg c]
end Go.Lg.Dec
namespace Go.Proofs.YtmimcmdeaenblaaDoor
open Go Go.Lg Go.Lg.Arith Go.Lg.Dec Go.RowKit
variable (X : Nat → Option Obj)
/-- the table of the powers of ten lies in the memory that was there -/
def XTab : Prop := ∀ w : World, (∀ b o, X b = some o → w.heap[b]? = some o) → Lib.TabIs Tryd.prog w "internal/strconv.uint64pow10" .u64 Lib.pow10Tab
theorem format_inner (hT : XTab X) (u : Nat) (hu : u < 18446744073709551616) : PSpec Tryd.prog X 66 [Ln .u64 (u : Nat), Ln .i64 10] (Ls (Lib.decDigits u)) :=
  PSpec.ofBelow (vals := [.int .u64 (u : Nat), .int .i64 10]) (v := .string ⟨(Lib.decDigits u).toArray⟩) (by kernel_rfl) rfl rfl (fun w hX => inner_format u hu w (hT w hX))
theorem format_spec (hT : XTab X) (u : Nat) (hu : u < 18446744073709551616) : PSpec Tryd.prog X 61 [Ln .u64 (u : Nat), Ln .i64 10] (Ls (Lib.decDigits u)) := by
  refine PSpec.intro Tryd.func61 rfl (by kernel_rfl) rfl rfl ?_
  intro C
  repeat (first | refine LWP.seq ?_ | refine LWP.ret ?_ | refine LWP.skip ?_ | refine LWP.block ?_ | refine LWP.exit ?_ | refine LWP.condT rfl ?_ | refine LWP.condF rfl ?_ | (refine LWP.region (id := 0) (by kernel_rfl) ?_; refine K.assign rfl .plain ?_; refine RunK.nil ?_) | (refine LWP.region (id := 1) (by kernel_rfl) ?_; refine K.move rfl .plain ?_; refine K.move rfl .plain ?_; refine K.call rfl rfl (format_inner _ hT u hu) .plain ?_; refine K.assign rfl .plain ?_; refine RunK.nil ?_))
  exact ⟨[_], ⟨rfl, trivial⟩, rfl⟩
theorem repeat_spec (c : Nat) (hc : c ≤ 1000) : PSpec Tryd.prog X 62 [Ls [48], Ln .i64 (c : Nat)] (Ls (Lib.repeatL [48] c)) :=
  PSpec.ofBelow (vals := [.string ⟨[48].toArray⟩, .int .i64 (c : Nat)]) (v := .string ⟨(Lib.repeatL [48] c).toArray⟩) (by kernel_rfl) rfl rfl (fun w _ => Tryd.strings_Repeat ⟨[48].toArray⟩ c w (by omega) (by show 1 * c ≤ _; omega))
theorem digits_spec (hT : XTab X) (M : Nat) (hM : M < 170141183460469231731687303715884105728) : PSpec Tryd.prog X 51 [LZ (M : Nat)] (Ls (Lib.decDigits M)) := by
  have hdv := Div64_spec X ((M : Int) / 18446744073709551616) ((M : Int) % 18446744073709551616) 10000000000000000000 (by omega) (by omega) (by omega)
  rw [show (M : Int) / 18446744073709551616 * 18446744073709551616 + (M : Int) % 18446744073709551616 = (M : Int) by omega] at hdv
  rw [show (M : Int) / 10000000000000000000 = ((M / 10000000000000000000 : Nat) : Int) by omega, show (M : Int) % 10000000000000000000 = ((M % 10000000000000000000 : Nat) : Int) by omega] at hdv
  have hL : M % 10000000000000000000 < 10000000000000000000 := Nat.mod_lt _ (by decide)
  have hU : M / 10000000000000000000 < 18446744073709551616 := by omega
  have hsum : M = M / 10000000000000000000 * 10 ^ 19 + M % 10000000000000000000 := by omega
  generalize M / 10000000000000000000 = U at *
  generalize M % 10000000000000000000 = L at *
  have hf1 := format_spec X hT L (by omega)
  have hf2 := format_spec X hT U hU
  have hn := nDigits_le 18 L hL
  have hp := Lib.nDigits_pos L
  have hu := nDigits_le 19 U (by omega)
  have hs1 : (⟨(Lib.decDigits L).toArray⟩ : ByteArray).size = Lib.nDigits L := Lib.decDigits_length L
  have hs2 : (⟨(Lib.decDigits U).toArray⟩ : ByteArray).size = Lib.nDigits U := Lib.decDigits_length U
  have hs3 : (⟨(Lib.repeatL [48] (19 - Lib.nDigits L)).toArray⟩ : ByteArray).size = (19 - Lib.nDigits L) * 1 := Lib.repeatL_length _ _
  have hs4 : (⟨(Lib.decDigits U ++ Lib.repeatL [48] (19 - Lib.nDigits L)).toArray⟩ : ByteArray).size = Lib.nDigits U + (19 - Lib.nDigits L) * 1 := by
    show (Lib.decDigits U ++ Lib.repeatL [48] (19 - Lib.nDigits L)).length = _
    rw [List.length_append, Lib.decDigits_length, Lib.repeatL_length]
    rfl
  have hsub : IntKind.i64.wrap (19 - ((⟨(Lib.decDigits L).toArray⟩ : ByteArray).size : Nat)) = ((19 - Lib.nDigits L : Nat) : Int) := by
    rw [hs1, wrap_i64 (by omega)]; omega
  refine PSpec.intro Tryd.func51 rfl (by kernel_rfl) rfl rfl ?_
  intro C
  by_cases h0 : U = 0
  · subst h0
    rw [Nat.zero_mul, Nat.zero_add] at hsum
    subst hsum
    repeat (first | refine LWP.seq ?_ | refine LWP.ret ?_ | refine LWP.skip ?_ | refine LWP.block ?_ | refine LWP.exit ?_ | refine LWP.condT rfl ?_ | refine LWP.condF rfl ?_ | (refine LWP.region (id := 0) (by kernel_rfl) ?_; refine K.box rfl rfl rfl .plain ?_; refine K.assign rfl .plain ?_; refine RunK.nil ?_) | (refine LWP.region (id := 1) (by kernel_rfl) ?_; (first | refine K.fieldAddr rfl rfl .plain ?_ | refine K.fieldAddrX rfl rfl .plain ?_); refine K.loadOne rfl rfl rfl .plain ?_; (first | refine K.fieldAddr rfl rfl .plain ?_ | refine K.fieldAddrX rfl rfl .plain ?_); refine K.loadOne rfl rfl rfl .plain ?_; refine K.call rfl rfl (hdv) .plain ?_; refine K.move rfl .plain ?_; refine K.extract rfl rfl .plain ?_; refine K.extract rfl rfl .plain ?_; refine K.assign rfl .plain ?_; refine K.assign rfl .plain ?_; refine RunK.nil ?_) | (refine LWP.region (id := 2) (by kernel_rfl) ?_; refine K.move rfl .plain ?_; refine K.call rfl rfl (hf1) .plain ?_; refine K.assign rfl .plain ?_; refine RunK.nil ?_) | (refine LWP.region (id := 3) (by kernel_rfl) ?_; refine K.move rfl .plain ?_; refine K.eql rfl rfl (by first | exact beq_iff_eq.2 (by omega) | exact beq_eq_false_iff_ne.2 (by omega) | rfl) .plain ?_; refine RunK.nil ?_) | (refine LWP.region (id := 4) (by kernel_rfl) ?_; refine K.move rfl .plain ?_; refine K.assign rfl .plain ?_; refine RunK.nil ?_) | (refine LWP.region (id := 5) (by kernel_rfl) ?_; refine K.move rfl .plain ?_; (first | refine K.lenStr rfl .plain ?_ | refine K.lenSlc rfl SliceT.h rfl .plain ?_ | refine K.lenX rfl SliceT.h rfl .plain ?_); refine K.sub rfl rfl (by first | exact wrap_i64 (by omega) | rfl) .plain ?_; fail; refine K.assign rfl .plain ?_; refine RunK.nil ?_) | (refine LWP.region (id := 6) (by kernel_rfl) ?_; refine K.move rfl .plain ?_; refine K.call rfl rfl (hf1) .plain ?_; refine K.move rfl .plain ?_; refine K.strAdd rfl rfl (by omega) rfl .plain ?_; refine K.move rfl .plain ?_; refine K.strAdd rfl rfl (by omega) rfl .plain ?_; refine K.assign rfl .plain ?_; refine RunK.nil ?_))
    exact ⟨[_], ⟨rfl, trivial⟩, rfl⟩
  · have e : Lib.decDigits M = Lib.decDigits U ++ Lib.repeatL [48] (19 - Lib.nDigits L) ++ Lib.decDigits L := by
      rw [hsum, dec_pad 19 U L (by omega) hL, pad_rep 18 L hL, List.append_assoc]
    rw [e]
    repeat (first | refine LWP.seq ?_ | refine LWP.ret ?_ | refine LWP.skip ?_ | refine LWP.block ?_ | refine LWP.exit ?_ | refine LWP.condT rfl ?_ | refine LWP.condF rfl ?_ | (refine LWP.region (id := 0) (by kernel_rfl) ?_; refine K.box rfl rfl rfl .plain ?_; refine K.assign rfl .plain ?_; refine RunK.nil ?_) | (refine LWP.region (id := 1) (by kernel_rfl) ?_; (first | refine K.fieldAddr rfl rfl .plain ?_ | refine K.fieldAddrX rfl rfl .plain ?_); refine K.loadOne rfl rfl rfl .plain ?_; (first | refine K.fieldAddr rfl rfl .plain ?_ | refine K.fieldAddrX rfl rfl .plain ?_); refine K.loadOne rfl rfl rfl .plain ?_; refine K.call rfl rfl (hdv) .plain ?_; refine K.move rfl .plain ?_; refine K.extract rfl rfl .plain ?_; refine K.extract rfl rfl .plain ?_; refine K.assign rfl .plain ?_; refine K.assign rfl .plain ?_; refine RunK.nil ?_) | (refine LWP.region (id := 2) (by kernel_rfl) ?_; refine K.move rfl .plain ?_; (first | refine K.call rfl rfl (hf1) .plain ?_ | refine K.call rfl rfl (hf2) .plain ?_); refine K.assign rfl .plain ?_; refine RunK.nil ?_) | (refine LWP.region (id := 3) (by kernel_rfl) ?_; refine K.move rfl .plain ?_; refine K.eql rfl rfl (by first | exact beq_iff_eq.2 (by omega) | exact beq_eq_false_iff_ne.2 (by omega) | rfl) .plain ?_; refine RunK.nil ?_) | (refine LWP.region (id := 4) (by kernel_rfl) ?_; refine K.move rfl .plain ?_; refine K.assign rfl .plain ?_; refine RunK.nil ?_) | (refine LWP.region (id := 5) (by kernel_rfl) ?_; refine K.move rfl .plain ?_; (first | refine K.lenStr rfl .plain ?_ | refine K.lenSlc rfl SliceT.h rfl .plain ?_ | refine K.lenX rfl SliceT.h rfl .plain ?_); refine K.sub rfl rfl hsub .plain ?_; refine K.call rfl rfl (repeat_spec _ (19 - Lib.nDigits L) (by omega)) .plain ?_; refine K.assign rfl .plain ?_; refine RunK.nil ?_) | (refine LWP.region (id := 6) (by kernel_rfl) ?_; refine K.move rfl .plain ?_; (first | refine K.call rfl rfl (hf1) .plain ?_ | refine K.call rfl rfl (hf2) .plain ?_); refine K.move rfl .plain ?_; refine K.strAdd rfl rfl (by omega) (str_add _ _) .plain ?_; refine K.move rfl .plain ?_; refine K.strAdd rfl rfl (by omega) (str_add _ _) .plain ?_; refine K.assign rfl .plain ?_; refine RunK.nil ?_))
    exact ⟨[_], ⟨rfl, trivial⟩, rfl⟩
/-- a number's text -/
def textQ (x : Int) : List UInt8 := if x < 0 then 45 :: Lib.decDigits (mg x).toNat else Lib.decDigits (mg x).toNat
theorem Text_spec (hT : XTab X) (x : Int) (hx : R127 x) : PSpec Tryd.prog X 24 [LQ x] (Ls (textQ x)) := by
  have hF := Form_spec X _ _ (mg_in2 hx) true (formB_q hx)
  have hm := mg_nonneg x
  have hl := mg_lim hx
  have hd := digits_spec X hT (mg x).toNat (by omega)
  rw [show (((mg x).toNat : Nat) : Int) = mg x by omega] at hd
  have hlen : (⟨(Lib.decDigits (mg x).toNat).toArray⟩ : ByteArray).size ≤ 39 := by
    show (Lib.decDigits (mg x).toNat).length ≤ 39
    rw [Lib.decDigits_length]
    exact nDigits_le 38 _ (by omega)
  refine PSpec.intro Tryd.func24 rfl (by kernel_rfl) rfl rfl ?_
  intro C
  by_cases c : x < 0
  · have e : textQ x = [45] ++ Lib.decDigits (mg x).toNat := if_pos c
    rw [e]
    unfold LQ at hF ⊢
    simp only [c, decide_true] at hF ⊢
    repeat (first | refine LWP.seq ?_ | refine LWP.ret ?_ | refine LWP.skip ?_ | refine LWP.block ?_ | refine LWP.exit ?_ | refine LWP.condT rfl ?_ | refine LWP.condF rfl ?_ | (refine LWP.region (id := 0) (by kernel_rfl) ?_; refine K.box rfl rfl rfl .plain ?_; refine K.assign rfl .plain ?_; refine RunK.nil ?_) | (refine LWP.region (id := 1) (by kernel_rfl) ?_; (first | refine K.loadAll rfl rfl rfl .plain ?_ | refine K.loadPart rfl rfl rfl (by first | exact nl1 rfl rfl | exact nl2 rfl rfl rfl | exact nl3 rfl rfl rfl rfl | exact nl4 rfl rfl rfl rfl rfl | exact nl0 rfl | exact nl5 rfl rfl rfl rfl rfl rfl | exact nl6 rfl rfl rfl rfl rfl rfl rfl | exact nl7 rfl rfl rfl rfl rfl rfl rfl rfl | exact nl8 rfl rfl rfl rfl rfl rfl rfl rfl rfl | exact rfl) .plain ?_ | refine K.loadXagg rfl rfl (by kernel_rfl) (by exact rfl) rfl .plain ?_); refine K.call rfl rfl (hF) .plain ?_; refine K.not rfl rfl .plain ?_; refine RunK.nil ?_) | (refine LWP.region (id := 2) (by kernel_rfl) ?_; refine K.assign rfl .plain ?_; refine RunK.nil ?_) | (refine LWP.region (id := 3) (by kernel_rfl) ?_; (first | refine K.loadAll rfl rfl rfl .plain ?_ | refine K.loadPart rfl rfl rfl (by first | exact nl1 rfl rfl | exact nl2 rfl rfl rfl | exact nl3 rfl rfl rfl rfl | exact nl4 rfl rfl rfl rfl rfl | exact nl0 rfl | exact nl5 rfl rfl rfl rfl rfl rfl | exact nl6 rfl rfl rfl rfl rfl rfl rfl | exact nl7 rfl rfl rfl rfl rfl rfl rfl rfl | exact nl8 rfl rfl rfl rfl rfl rfl rfl rfl rfl | exact rfl) .plain ?_ | refine K.loadXagg rfl rfl (by kernel_rfl) (by exact rfl) rfl .plain ?_); refine K.call rfl rfl (sizeOf_spec _ _ _ _) .plain ?_; refine K.call rfl rfl (hd) .plain ?_; refine K.assign rfl .plain ?_; refine RunK.nil ?_) | (refine LWP.region (id := 4) (by kernel_rfl) ?_; (first | refine K.fieldAddr rfl rfl .plain ?_ | refine K.fieldAddrX rfl rfl .plain ?_); refine K.loadOne rfl rfl rfl .plain ?_; refine RunK.nil ?_) | (refine LWP.region (id := 5) (by kernel_rfl) ?_; refine K.move rfl .plain ?_; refine K.strAdd rfl rfl (Nat.le_trans (Nat.add_le_add_left hlen _) (by decide)) (str_add [45] _) .plain ?_; refine K.assign rfl .plain ?_; refine RunK.nil ?_) | (refine LWP.region (id := 6) (by kernel_rfl) ?_; refine K.move rfl .plain ?_; refine K.assign rfl .plain ?_; refine RunK.nil ?_))
    exact ⟨[_], ⟨rfl, trivial⟩, rfl⟩
  · have e : textQ x = Lib.decDigits (mg x).toNat := if_neg c
    rw [e]
    unfold LQ at hF ⊢
    simp only [c, decide_false] at hF ⊢
    repeat (first | refine LWP.seq ?_ | refine LWP.ret ?_ | refine LWP.skip ?_ | refine LWP.block ?_ | refine LWP.exit ?_ | refine LWP.condT rfl ?_ | refine LWP.condF rfl ?_ | (refine LWP.region (id := 0) (by kernel_rfl) ?_; refine K.box rfl rfl rfl .plain ?_; refine K.assign rfl .plain ?_; refine RunK.nil ?_) | (refine LWP.region (id := 1) (by kernel_rfl) ?_; (first | refine K.loadAll rfl rfl rfl .plain ?_ | refine K.loadPart rfl rfl rfl (by first | exact nl1 rfl rfl | exact nl2 rfl rfl rfl | exact nl3 rfl rfl rfl rfl | exact nl4 rfl rfl rfl rfl rfl | exact nl0 rfl | exact nl5 rfl rfl rfl rfl rfl rfl | exact nl6 rfl rfl rfl rfl rfl rfl rfl | exact nl7 rfl rfl rfl rfl rfl rfl rfl rfl | exact nl8 rfl rfl rfl rfl rfl rfl rfl rfl rfl | exact rfl) .plain ?_ | refine K.loadXagg rfl rfl (by kernel_rfl) (by exact rfl) rfl .plain ?_); refine K.call rfl rfl (hF) .plain ?_; refine K.not rfl rfl .plain ?_; refine RunK.nil ?_) | (refine LWP.region (id := 2) (by kernel_rfl) ?_; refine K.assign rfl .plain ?_; refine RunK.nil ?_) | (refine LWP.region (id := 3) (by kernel_rfl) ?_; (first | refine K.loadAll rfl rfl rfl .plain ?_ | refine K.loadPart rfl rfl rfl (by first | exact nl1 rfl rfl | exact nl2 rfl rfl rfl | exact nl3 rfl rfl rfl rfl | exact nl4 rfl rfl rfl rfl rfl | exact nl0 rfl | exact nl5 rfl rfl rfl rfl rfl rfl | exact nl6 rfl rfl rfl rfl rfl rfl rfl | exact nl7 rfl rfl rfl rfl rfl rfl rfl rfl | exact nl8 rfl rfl rfl rfl rfl rfl rfl rfl rfl | exact rfl) .plain ?_ | refine K.loadXagg rfl rfl (by kernel_rfl) (by exact rfl) rfl .plain ?_); refine K.call rfl rfl (sizeOf_spec _ _ _ _) .plain ?_; refine K.call rfl rfl (hd) .plain ?_; refine K.assign rfl .plain ?_; refine RunK.nil ?_) | (refine LWP.region (id := 4) (by kernel_rfl) ?_; (first | refine K.fieldAddr rfl rfl .plain ?_ | refine K.fieldAddrX rfl rfl .plain ?_); refine K.loadOne rfl rfl rfl .plain ?_; refine RunK.nil ?_) | (refine LWP.region (id := 5) (by kernel_rfl) ?_; refine K.move rfl .plain ?_; refine K.strAdd rfl rfl (by omega) rfl .plain ?_; refine K.assign rfl .plain ?_; refine RunK.nil ?_) | (refine LWP.region (id := 6) (by kernel_rfl) ?_; refine K.move rfl .plain ?_; refine K.assign rfl .plain ?_; refine RunK.nil ?_))
    exact ⟨[_], ⟨rfl, trivial⟩, rfl⟩
theorem Text_bad (b : Bool) (N : Int) (hN : In2 N) (hf : formB b N = false) : PSpec Tryd.prog X 24 [LI b N] (Ls []) := by
  refine PSpec.intro Tryd.func24 rfl (by kernel_rfl) rfl rfl ?_
  intro C
  repeat (first | refine LWP.seq ?_ | refine LWP.ret ?_ | refine LWP.skip ?_ | refine LWP.block ?_ | refine LWP.exit ?_ | refine LWP.condT rfl ?_ | refine LWP.condF rfl ?_ | (refine LWP.region (id := 0) (by kernel_rfl) ?_; refine K.box rfl rfl rfl .plain ?_; refine K.assign rfl .plain ?_; refine RunK.nil ?_) | (refine LWP.region (id := 1) (by kernel_rfl) ?_; (first | refine K.loadAll rfl rfl rfl .plain ?_ | refine K.loadPart rfl rfl rfl (by first | exact nl1 rfl rfl | exact nl2 rfl rfl rfl | exact nl3 rfl rfl rfl rfl | exact nl4 rfl rfl rfl rfl rfl | exact nl0 rfl | exact nl5 rfl rfl rfl rfl rfl rfl | exact nl6 rfl rfl rfl rfl rfl rfl rfl | exact nl7 rfl rfl rfl rfl rfl rfl rfl rfl | exact nl8 rfl rfl rfl rfl rfl rfl rfl rfl rfl | exact rfl) .plain ?_ | refine K.loadXagg rfl rfl (by kernel_rfl) (by exact rfl) rfl .plain ?_); refine K.call rfl rfl (Form_spec _ _ _ hN false hf) .plain ?_; refine K.not rfl rfl .plain ?_; refine RunK.nil ?_) | (refine LWP.region (id := 2) (by kernel_rfl) ?_; refine K.assign rfl .plain ?_; refine RunK.nil ?_) | (refine LWP.region (id := 3) (by kernel_rfl) ?_; (first | refine K.loadAll rfl rfl rfl .plain ?_ | refine K.loadPart rfl rfl rfl (by first | exact nl1 rfl rfl | exact nl2 rfl rfl rfl | exact nl3 rfl rfl rfl rfl | exact nl4 rfl rfl rfl rfl rfl | exact nl0 rfl | exact nl5 rfl rfl rfl rfl rfl rfl | exact nl6 rfl rfl rfl rfl rfl rfl rfl | exact nl7 rfl rfl rfl rfl rfl rfl rfl rfl | exact nl8 rfl rfl rfl rfl rfl rfl rfl rfl rfl | exact rfl) .plain ?_ | refine K.loadXagg rfl rfl (by kernel_rfl) (by exact rfl) rfl .plain ?_); fail; fail; refine K.assign rfl .plain ?_; refine RunK.nil ?_) | (refine LWP.region (id := 4) (by kernel_rfl) ?_; (first | refine K.fieldAddr rfl rfl .plain ?_ | refine K.fieldAddrX rfl rfl .plain ?_); refine K.loadOne rfl rfl rfl .plain ?_; refine RunK.nil ?_) | (refine LWP.region (id := 5) (by kernel_rfl) ?_; refine K.move rfl .plain ?_; refine K.strAdd rfl rfl (by omega) rfl .plain ?_; refine K.assign rfl .plain ?_; refine RunK.nil ?_) | (refine LWP.region (id := 6) (by kernel_rfl) ?_; refine K.move rfl .plain ?_; refine K.assign rfl .plain ?_; refine RunK.nil ?_))
  exact ⟨[_], ⟨rfl, trivial⟩, rfl⟩
end Go.Proofs.YtmimcmdeaenblaaDoor
