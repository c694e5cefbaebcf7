/- A piece of a proof over this program: contracts of its functions, and a logic to prove them by. -/
import Derived.Test.YtomdikppahgofaaE3
namespace Go.Proofs.Ytomdikppahgofaa
open Go Go.Lg Go.Lg.Adl
set_option maxRecDepth 100000
variable (X : Nat → Option Obj)
theorem openOk_app (s : List UInt8) (n : Nat) (hn : n < 4294967296) : openOk (s ++ leB 4 n) = (n == sum s) := by
  have hp : (256 : Nat) ^ 4 = 4294967296 := by decide
  have hl : (s ++ leB 4 n).length = s.length + 4 := by rw [List.length_append, leB_length]
  unfold openOk
  rw [hl, decide_eq_true (by omega), Bool.true_and, show s.length + 4 - 4 = s.length by omega, List.take_left, List.drop_left, le_leB _ _ (by omega)]
theorem open_app (s : List UInt8) (n : Nat) : (s ++ leB 4 n).take ((s ++ leB 4 n).length - 4) = s := by
  rw [List.length_append, leB_length, show s.length + 4 - 4 = s.length by omega, List.take_left]
theorem xor_u8 (c d : UInt8) : bits .xor .u8 ((c.toNat : Nat) : Int) ((d.toNat : Nat) : Int) = (((c ^^^ d).toNat : Nat) : Int) := by
  rw [u8_xor_nat _ _ c.toNat_lt d.toNat_lt, UInt8.toNat_xor]
theorem xor_same {c d : UInt8} : c ^^^ d = c ↔ d = 0 := by
  constructor
  · intro h
    have h2 : c ^^^ (c ^^^ d) = c ^^^ c := by rw [h]
    rw [← UInt8.xor_assoc, UInt8.xor_self, UInt8.zero_xor] at h2
    exact h2
  · rintro rfl
    exact UInt8.xor_zero
set_option maxHeartbeats 1600000 in
theorem tells_law (s : List UInt8) (at_ : Int) (d : UInt8) (hat_ : -9223372036854775808 ≤ at_ ∧ at_ ≤ 9223372036854775807) : PSpec Try.prog X 5 [Ls s, Ln .i64 at_, Ln .u8 (d.toNat : Nat)] (Lb true) := by
  have hw := sawake_spec X
  have hz : (⟨s.toArray⟩ : ByteArray).size = s.length := rfl
  refine PSpec.intro Try.func5 rfl (by kernel_rfl) rfl rfl ?_
  intro C
  by_cases ha : 4096 < s.length
  · repeat (first | refine LWP.seq ?_ | refine LWP.ret ?_ | refine LWP.skip ?_ | refine LWP.block ?_ | refine LWP.exit ?_ | refine LWP.condT rfl ?_ | refine LWP.condF rfl ?_ | (refine LWP.region (id := 0) (by kernel_rfl) ?_; refine K.assign rfl .plain ?_; refine RunK.nil ?_) | (refine LWP.region (id := 1) (by kernel_rfl) ?_; refine K.call rfl rfl (hw) .plain ?_; refine K.not rfl rfl .plain ?_; refine RunK.nil ?_) | (refine LWP.region (id := 2) (by kernel_rfl) ?_; refine K.assign rfl .plain ?_; refine RunK.nil ?_) | (refine LWP.region (id := 3) (by kernel_rfl) ?_; refine K.move rfl .plain ?_; (first | refine K.lenStr rfl .plain ?_ | refine K.lenSlc rfl SliceT.h rfl .plain ?_ | refine K.lenX rfl SliceT.h rfl .plain ?_); refine K.gtr rfl rfl (by first | exact decide_eq_true (by omega) | exact decide_eq_false (by omega) | rfl) .plain ?_; refine RunK.nil ?_) | (refine LWP.region (id := 4) (by kernel_rfl) ?_; refine K.assign rfl .plain ?_; refine RunK.nil ?_))
    exact ⟨[_], ⟨rfl, trivial⟩, rfl⟩
  have t1 := Stamp_spec X s (by omega)
  have hs := sum_lt s
  obtain ⟨t, ht⟩ : ∃ t, t = s ++ leB 4 (sum s) := ⟨_, rfl⟩
  have hL : t.length = s.length + 4 := by rw [ht, List.length_append, leB_length]
  have p1 : PSpec Try.prog X 13 [Ls t] (.tup [Ss s, Sn .i64 0]) := by
    have h := Open_ok X t (by omega) (by rw [ht, openOk_app _ _ hs, beq_self_eq_true])
    rw [ht, open_app] at h
    rw [ht]
    exact h
  rw [← ht] at t1
  by_cases h0 : s.length = 0
  · repeat (first | refine LWP.seq ?_ | refine LWP.ret ?_ | refine LWP.skip ?_ | refine LWP.block ?_ | refine LWP.exit ?_ | refine LWP.condT rfl ?_ | refine LWP.condF rfl ?_ | (refine LWP.region (id := 0) (by kernel_rfl) ?_; refine K.assign rfl .plain ?_; refine RunK.nil ?_) | (refine LWP.region (id := 1) (by kernel_rfl) ?_; refine K.call rfl rfl (hw) .plain ?_; refine K.not rfl rfl .plain ?_; refine RunK.nil ?_) | (refine LWP.region (id := 3) (by kernel_rfl) ?_; refine K.move rfl .plain ?_; (first | refine K.lenStr rfl .plain ?_ | refine K.lenSlc rfl SliceT.h rfl .plain ?_ | refine K.lenX rfl SliceT.h rfl .plain ?_); refine K.gtr rfl rfl (by first | exact decide_eq_true (by omega) | exact decide_eq_false (by omega) | rfl) .plain ?_; refine RunK.nil ?_) | (refine LWP.region (id := 5) (by kernel_rfl) ?_; refine K.move rfl .plain ?_; refine K.call rfl rfl (t1) .plain ?_; refine K.assign rfl .plain ?_; refine RunK.nil ?_) | (refine LWP.region (id := 6) (by kernel_rfl) ?_; refine K.move rfl .plain ?_; refine K.call rfl rfl (p1) .plain ?_; refine K.move rfl .plain ?_; refine K.extract rfl rfl .plain ?_; refine K.extract rfl rfl .plain ?_; refine K.assign rfl .plain ?_; refine K.assign rfl .plain ?_; refine RunK.nil ?_) | (refine LWP.region (id := 7) (by kernel_rfl) ?_; refine K.move rfl .plain ?_; refine K.neq rfl rfl (by first | exact bne_iff_ne.2 (by omega) | exact (bne_eq_false_iff_eq.2 (by omega)) | rfl) .plain ?_; refine K.move rfl .plain ?_; (first | refine RunK.passed rfl rfl rfl ?_ | refine RunK.passedU rfl rfl ?_ | refine K.move rfl (.taken rfl rfl) ?_); (first | refine RunK.passed rfl rfl rfl ?_ | refine RunK.passedU rfl rfl ?_ | refine K.move rfl (.taken rfl rfl) ?_); (first | refine RunK.passed rfl rfl rfl ?_ | refine RunK.passedU rfl rfl ?_ | refine K.strNe rfl rfl (strs_ne (r := false) (by simp)) (.taken rfl rfl) ?_); (first | refine K.pickT rfl rfl .plain ?_ | refine K.pickF rfl rfl .plain ?_); refine RunK.nil ?_) | (refine LWP.region (id := 9) (by kernel_rfl) ?_; refine K.move rfl .plain ?_; (first | refine K.lenStr rfl .plain ?_ | refine K.lenSlc rfl SliceT.h rfl .plain ?_ | refine K.lenX rfl SliceT.h rfl .plain ?_); refine K.eql rfl rfl (by first | exact beq_iff_eq.2 (by omega) | exact beq_eq_false_iff_ne.2 (by omega) | rfl) .plain ?_; refine RunK.nil ?_) | (refine LWP.region (id := 10) (by kernel_rfl) ?_; refine K.assign rfl .plain ?_; refine RunK.nil ?_))
    exact ⟨[_], ⟨rfl, trivial⟩, rfl⟩
  obtain ⟨q, hq⟩ : ∃ q : Nat, IntKind.u64.wrap at_ = (q : Nat) := ⟨(at_ % 18446744073709551616).toNat, by rw [IntKind.wrap_u64]; omega⟩
  obtain ⟨k, hk⟩ : ∃ k : Nat, q % s.length = k := ⟨_, rfl⟩
  have hkl : k < s.length := by rw [← hk]; exact Nat.mod_lt _ (by omega)
  have e1 : ((q : Nat) : Int).tmod (((⟨s.toArray⟩ : ByteArray).size : Nat) : Int) = ((k : Nat) : Int) := by rw [hz, mod_nat, hk]
  obtain ⟨c, hc⟩ : ∃ c, s[k]? = some c := ⟨_, List.getElem?_eq_getElem hkl⟩
  have hct : t[k]? = some c := by rw [ht, List.getElem?_append_left hkl]; exact hc
  have hx := xor_u8 c d
  have hne := @xor_same c d
  obtain ⟨e, he⟩ : ∃ e, e = c ^^^ d := ⟨_, rfl⟩
  rw [← he] at hx hne
  have hset : t.set k e = s.set k e ++ leB 4 (sum s) := by rw [ht, List.set_append_left _ _ hkl]
  have hsum := sum_set (d := e) hc
  have hoo : openOk (t.set k e) = (sum s == sum (s.set k e)) := by rw [hset, openOk_app _ _ hs]
  have hsl : (s.set k e).length = s.length := List.length_set
  have htl : (t.set k e).length = t.length := List.length_set
  have htk : (t.set k e).take s.length = s.set k e := by
    rw [hset, ← hsl, List.take_left]
  have hio : 0 + Int.toNat ((k : Nat) : Int) * 1 = k := by simp
  have hcell : (t.map bc)[k]? = some (bc c) := by rw [List.getElem?_map, hct]; rfl
  have hbl : Nat.blt k (t.map bc).length = true := by rw [List.length_map, Nat.blt_eq]; omega
  have hst : (t.map bc).set k (bc e) = (t.set k e).map bc := by rw [List.map_set]
  have hm1 : 0 + t.length ≤ ((t.set k e).map bc).length := by rw [List.length_map, htl]; omega
  have hc1 : (((t.set k e).map bc).drop 0).take t.length = (t.set k e).map bc := by rw [List.drop_zero, List.take_of_length_le (by rw [List.length_map, htl]; exact Nat.le_refl _)]
  have hm2 : 0 + s.length ≤ ((t.set k e).map bc).length := by rw [List.length_map, htl]; omega
  have hc2 : (((t.set k e).map bc).drop 0).take s.length = (s.set k e).map bc := by rw [List.drop_zero, ← List.map_take, htk]
  have hh : (⟨s.toArray⟩ : ByteArray).size ≤ t.length := by omega
  have o1 := Of_spec X (s.set k e) (by omega)
  have o2 := Of_spec X s (by omega)
  have hd := d.toNat_lt
  have hd0 : d = 0 ↔ d.toNat = 0 := by rw [← UInt8.toNat_inj]; rfl
  have p2 : ∃ u : List UInt8, PSpec Try.prog X 13 [Ls (t.set k e)] (.tup [Ss u, Sn .i64 (if d = 0 then 0 else 4)]) := by
    by_cases h : d = 0
    · rw [if_pos h]
      exact ⟨_, Open_ok X _ (by omega) (by rw [hoo, beq_iff_eq, hsum.2 (hne.2 h)])⟩
    · rw [if_neg h]
      exact ⟨_, Open_no X _ (by omega) (by rw [hoo, beq_eq_false_iff_ne]; exact fun e => h (hne.1 (hsum.1 e.symm)))⟩
  obtain ⟨u, p2⟩ := p2
  rw [hne, hd0] at hsum
  clear hoo hset hne ht hsl htk he hct hc
  by_cases hdz : d.toNat = 0
  · have hs2 := hsum.2 hdz
    rw [if_pos (hd0.2 hdz)] at p2
    generalize s.set k e = se at *
    generalize t.set k e = te at *
    generalize sum s = n at *
    generalize sum se = m at *
    repeat (first | refine LWP.seq ?_ | refine LWP.ret ?_ | refine LWP.skip ?_ | refine LWP.block ?_ | refine LWP.exit ?_ | refine LWP.condT rfl ?_ | refine LWP.condF rfl ?_ | (refine LWP.region (id := 0) (by kernel_rfl) ?_; refine K.assign rfl .plain ?_; refine RunK.nil ?_) | (refine LWP.region (id := 1) (by kernel_rfl) ?_; refine K.call rfl rfl (hw) .plain ?_; refine K.not rfl rfl .plain ?_; refine RunK.nil ?_) | (refine LWP.region (id := 3) (by kernel_rfl) ?_; refine K.move rfl .plain ?_; (first | refine K.lenStr rfl .plain ?_ | refine K.lenSlc rfl SliceT.h rfl .plain ?_ | refine K.lenX rfl SliceT.h rfl .plain ?_); refine K.gtr rfl rfl (by first | exact decide_eq_true (by omega) | exact decide_eq_false (by omega) | rfl) .plain ?_; refine RunK.nil ?_) | (refine LWP.region (id := 5) (by kernel_rfl) ?_; refine K.move rfl .plain ?_; refine K.call rfl rfl (t1) .plain ?_; refine K.assign rfl .plain ?_; refine RunK.nil ?_) | (refine LWP.region (id := 6) (by kernel_rfl) ?_; refine K.move rfl .plain ?_; refine K.call rfl rfl p1 .plain ?_; refine K.move rfl .plain ?_; refine K.extract rfl rfl .plain ?_; refine K.extract rfl rfl .plain ?_; refine K.assign rfl .plain ?_; refine K.assign rfl .plain ?_; refine RunK.nil ?_) | (refine LWP.region (id := 7) (by kernel_rfl) ?_; refine K.move rfl .plain ?_; refine K.neq rfl rfl (by first | exact bne_iff_ne.2 (by omega) | exact (bne_eq_false_iff_eq.2 (by omega)) | rfl) .plain ?_; refine K.move rfl .plain ?_; (first | refine RunK.passed rfl rfl rfl ?_ | refine RunK.passedU rfl rfl ?_ | refine K.move rfl (.taken rfl rfl) ?_); (first | refine RunK.passed rfl rfl rfl ?_ | refine RunK.passedU rfl rfl ?_ | refine K.move rfl (.taken rfl rfl) ?_); (first | refine RunK.passed rfl rfl rfl ?_ | refine RunK.passedU rfl rfl ?_ | refine K.strNe rfl rfl (strs_ne (r := false) (by simp)) (.taken rfl rfl) ?_); (first | refine K.pickT rfl rfl .plain ?_ | refine K.pickF rfl rfl .plain ?_); refine RunK.nil ?_) | (refine LWP.region (id := 9) (by kernel_rfl) ?_; refine K.move rfl .plain ?_; (first | refine K.lenStr rfl .plain ?_ | refine K.lenSlc rfl SliceT.h rfl .plain ?_ | refine K.lenX rfl SliceT.h rfl .plain ?_); refine K.eql rfl rfl (by first | exact beq_iff_eq.2 (by omega) | exact beq_eq_false_iff_ne.2 (by omega) | rfl) .plain ?_; refine RunK.nil ?_) | (refine LWP.region (id := 11) (by kernel_rfl) ?_; refine K.move rfl .plain ?_; refine K.strBytes (e := 5) rfl StrT.u (by kernel_rfl) (by kernel_rfl) rfl .plain ?_; refine K.assign rfl .plain ?_; refine RunK.nil ?_) | (refine LWP.region (id := 12) (by kernel_rfl) ?_; refine K.move rfl .plain ?_; refine K.conv rfl hq .plain ?_; refine K.move rfl .plain ?_; (first | refine K.lenStr rfl .plain ?_ | refine K.lenSlc rfl SliceT.h rfl .plain ?_ | refine K.lenX rfl SliceT.h rfl .plain ?_); refine K.conv rfl (by first | exact wrap_u64 (by omega) | rfl) .plain ?_; refine K.rem rfl rfl (by omega) e1 .plain ?_; refine K.conv rfl (by first | exact wrap_i64 (by omega) | rfl) .plain ?_; refine K.assign rfl .plain ?_; refine RunK.nil ?_) | (refine LWP.region (id := 13) (by kernel_rfl) ?_; refine K.move rfl .plain ?_; refine K.move rfl .plain ?_; refine K.move rfl .plain ?_; refine K.move rfl .plain ?_; refine K.indexSlc rfl rfl (by omega) hio .plain ?_; refine K.loadOne rfl rfl hcell .plain ?_; refine K.move rfl .plain ?_; refine K.bitop (by simp) rfl rfl hx .plain ?_; refine K.indexSlc rfl rfl (by omega) hio .plain ?_; refine K.storeOne rfl rfl rfl rfl hbl hst .plain ?_; refine RunK.nil ?_) | (refine LWP.region (id := 14) (by kernel_rfl) ?_; refine K.move rfl .plain ?_; refine K.convStr rfl rfl (by kernel_rfl) StrT.u hm1 hc1 .plain ?_; refine K.call rfl rfl p2 .plain ?_; refine K.move rfl .plain ?_; refine K.extract rfl rfl .plain ?_; refine K.extract rfl rfl .plain ?_; refine K.assign rfl .plain ?_; refine K.assign rfl .plain ?_; refine RunK.nil ?_) | (refine LWP.region (id := 15) (by kernel_rfl) ?_; refine K.move rfl .plain ?_; refine K.move rfl .plain ?_; (first | refine K.lenStr rfl .plain ?_ | refine K.lenSlc rfl SliceT.h rfl .plain ?_ | refine K.lenX rfl SliceT.h rfl .plain ?_); refine K.cutSlc rfl rfl SliceT.h hh .plain ?_; refine K.convStr rfl rfl (by kernel_rfl) StrT.u hm2 hc2 .plain ?_; refine K.call rfl rfl o1 .plain ?_; refine K.move rfl .plain ?_; refine K.call rfl rfl o2 .plain ?_; refine K.eql rfl rfl (by first | exact beq_iff_eq.2 (by omega) | exact beq_eq_false_iff_ne.2 (by omega) | rfl) .plain ?_; refine K.move rfl .plain ?_; refine K.eql rfl rfl (by first | exact beq_iff_eq.2 (by omega) | exact beq_eq_false_iff_ne.2 (by omega) | rfl) .plain ?_; refine K.eqlB rfl rfl rfl .plain ?_; refine K.move rfl .plain ?_; (first | refine RunK.passed rfl rfl rfl ?_ | refine RunK.passedU rfl rfl ?_ | refine K.move rfl (.taken rfl rfl) ?_); (first | refine RunK.passed rfl rfl rfl ?_ | refine RunK.passedU rfl rfl ?_ | refine K.eql rfl rfl (by first | exact beq_iff_eq.2 (by omega) | exact beq_eq_false_iff_ne.2 (by omega) | rfl) (.taken rfl rfl) ?_); (first | refine RunK.passed rfl rfl rfl ?_ | refine RunK.passedU rfl rfl ?_ | refine K.move rfl (.taken rfl rfl) ?_); (first | refine RunK.passed rfl rfl rfl ?_ | refine RunK.passedU rfl rfl ?_ | refine K.eql rfl rfl (by first | exact beq_iff_eq.2 (by omega) | exact beq_eq_false_iff_ne.2 (by omega) | rfl) (.taken rfl rfl) ?_); (first | refine RunK.passed rfl rfl rfl ?_ | refine RunK.passedU rfl rfl ?_ | refine K.eqlB rfl rfl rfl (.taken rfl rfl) ?_); (first | refine K.pickT rfl rfl .plain ?_ | refine K.pickF rfl rfl .plain ?_); refine K.assign rfl .plain ?_; refine RunK.nil ?_))
    exact ⟨[_], ⟨rfl, trivial⟩, rfl⟩
  · have hs2 : ¬ sum (s.set k e) = sum s := fun h => hdz (hsum.1 h)
    rw [if_neg (fun h => hdz (hd0.1 h))] at p2
    generalize s.set k e = se at *
    generalize t.set k e = te at *
    generalize sum s = n at *
    generalize sum se = m at *
    repeat (first | refine LWP.seq ?_ | refine LWP.ret ?_ | refine LWP.skip ?_ | refine LWP.block ?_ | refine LWP.exit ?_ | refine LWP.condT rfl ?_ | refine LWP.condF rfl ?_ | (refine LWP.region (id := 0) (by kernel_rfl) ?_; refine K.assign rfl .plain ?_; refine RunK.nil ?_) | (refine LWP.region (id := 1) (by kernel_rfl) ?_; refine K.call rfl rfl (hw) .plain ?_; refine K.not rfl rfl .plain ?_; refine RunK.nil ?_) | (refine LWP.region (id := 3) (by kernel_rfl) ?_; refine K.move rfl .plain ?_; (first | refine K.lenStr rfl .plain ?_ | refine K.lenSlc rfl SliceT.h rfl .plain ?_ | refine K.lenX rfl SliceT.h rfl .plain ?_); refine K.gtr rfl rfl (by first | exact decide_eq_true (by omega) | exact decide_eq_false (by omega) | rfl) .plain ?_; refine RunK.nil ?_) | (refine LWP.region (id := 5) (by kernel_rfl) ?_; refine K.move rfl .plain ?_; refine K.call rfl rfl (t1) .plain ?_; refine K.assign rfl .plain ?_; refine RunK.nil ?_) | (refine LWP.region (id := 6) (by kernel_rfl) ?_; refine K.move rfl .plain ?_; refine K.call rfl rfl p1 .plain ?_; refine K.move rfl .plain ?_; refine K.extract rfl rfl .plain ?_; refine K.extract rfl rfl .plain ?_; refine K.assign rfl .plain ?_; refine K.assign rfl .plain ?_; refine RunK.nil ?_) | (refine LWP.region (id := 7) (by kernel_rfl) ?_; refine K.move rfl .plain ?_; refine K.neq rfl rfl (by first | exact bne_iff_ne.2 (by omega) | exact (bne_eq_false_iff_eq.2 (by omega)) | rfl) .plain ?_; refine K.move rfl .plain ?_; (first | refine RunK.passed rfl rfl rfl ?_ | refine RunK.passedU rfl rfl ?_ | refine K.move rfl (.taken rfl rfl) ?_); (first | refine RunK.passed rfl rfl rfl ?_ | refine RunK.passedU rfl rfl ?_ | refine K.move rfl (.taken rfl rfl) ?_); (first | refine RunK.passed rfl rfl rfl ?_ | refine RunK.passedU rfl rfl ?_ | refine K.strNe rfl rfl (strs_ne (r := false) (by simp)) (.taken rfl rfl) ?_); (first | refine K.pickT rfl rfl .plain ?_ | refine K.pickF rfl rfl .plain ?_); refine RunK.nil ?_) | (refine LWP.region (id := 9) (by kernel_rfl) ?_; refine K.move rfl .plain ?_; (first | refine K.lenStr rfl .plain ?_ | refine K.lenSlc rfl SliceT.h rfl .plain ?_ | refine K.lenX rfl SliceT.h rfl .plain ?_); refine K.eql rfl rfl (by first | exact beq_iff_eq.2 (by omega) | exact beq_eq_false_iff_ne.2 (by omega) | rfl) .plain ?_; refine RunK.nil ?_) | (refine LWP.region (id := 11) (by kernel_rfl) ?_; refine K.move rfl .plain ?_; refine K.strBytes (e := 5) rfl StrT.u (by kernel_rfl) (by kernel_rfl) rfl .plain ?_; refine K.assign rfl .plain ?_; refine RunK.nil ?_) | (refine LWP.region (id := 12) (by kernel_rfl) ?_; refine K.move rfl .plain ?_; refine K.conv rfl hq .plain ?_; refine K.move rfl .plain ?_; (first | refine K.lenStr rfl .plain ?_ | refine K.lenSlc rfl SliceT.h rfl .plain ?_ | refine K.lenX rfl SliceT.h rfl .plain ?_); refine K.conv rfl (by first | exact wrap_u64 (by omega) | rfl) .plain ?_; refine K.rem rfl rfl (by omega) e1 .plain ?_; refine K.conv rfl (by first | exact wrap_i64 (by omega) | rfl) .plain ?_; refine K.assign rfl .plain ?_; refine RunK.nil ?_) | (refine LWP.region (id := 13) (by kernel_rfl) ?_; refine K.move rfl .plain ?_; refine K.move rfl .plain ?_; refine K.move rfl .plain ?_; refine K.move rfl .plain ?_; refine K.indexSlc rfl rfl (by omega) hio .plain ?_; refine K.loadOne rfl rfl hcell .plain ?_; refine K.move rfl .plain ?_; refine K.bitop (by simp) rfl rfl hx .plain ?_; refine K.indexSlc rfl rfl (by omega) hio .plain ?_; refine K.storeOne rfl rfl rfl rfl hbl hst .plain ?_; refine RunK.nil ?_) | (refine LWP.region (id := 14) (by kernel_rfl) ?_; refine K.move rfl .plain ?_; refine K.convStr rfl rfl (by kernel_rfl) StrT.u hm1 hc1 .plain ?_; refine K.call rfl rfl p2 .plain ?_; refine K.move rfl .plain ?_; refine K.extract rfl rfl .plain ?_; refine K.extract rfl rfl .plain ?_; refine K.assign rfl .plain ?_; refine K.assign rfl .plain ?_; refine RunK.nil ?_) | (refine LWP.region (id := 15) (by kernel_rfl) ?_; refine K.move rfl .plain ?_; refine K.move rfl .plain ?_; (first | refine K.lenStr rfl .plain ?_ | refine K.lenSlc rfl SliceT.h rfl .plain ?_ | refine K.lenX rfl SliceT.h rfl .plain ?_); refine K.cutSlc rfl rfl SliceT.h hh .plain ?_; refine K.convStr rfl rfl (by kernel_rfl) StrT.u hm2 hc2 .plain ?_; refine K.call rfl rfl o1 .plain ?_; refine K.move rfl .plain ?_; refine K.call rfl rfl o2 .plain ?_; refine K.eql rfl rfl (by first | exact beq_iff_eq.2 (by omega) | exact beq_eq_false_iff_ne.2 (by omega) | rfl) .plain ?_; refine K.move rfl .plain ?_; refine K.eql rfl rfl (by first | exact beq_iff_eq.2 (by omega) | exact beq_eq_false_iff_ne.2 (by omega) | rfl) .plain ?_; refine K.eqlB rfl rfl rfl .plain ?_; refine K.move rfl .plain ?_; (first | refine RunK.passed rfl rfl rfl ?_ | refine RunK.passedU rfl rfl ?_ | refine K.move rfl (.taken rfl rfl) ?_); (first | refine RunK.passed rfl rfl rfl ?_ | refine RunK.passedU rfl rfl ?_ | refine K.eql rfl rfl (by first | exact beq_iff_eq.2 (by omega) | exact beq_eq_false_iff_ne.2 (by omega) | rfl) (.taken rfl rfl) ?_); (first | refine RunK.passed rfl rfl rfl ?_ | refine RunK.passedU rfl rfl ?_ | refine K.move rfl (.taken rfl rfl) ?_); (first | refine RunK.passed rfl rfl rfl ?_ | refine RunK.passedU rfl rfl ?_ | refine K.eql rfl rfl (by first | exact beq_iff_eq.2 (by omega) | exact beq_eq_false_iff_ne.2 (by omega) | rfl) (.taken rfl rfl) ?_); (first | refine RunK.passed rfl rfl rfl ?_ | refine RunK.passedU rfl rfl ?_ | refine K.eqlB rfl rfl rfl (.taken rfl rfl) ?_); (first | refine K.pickT rfl rfl .plain ?_ | refine K.pickF rfl rfl .plain ?_); refine K.assign rfl .plain ?_; refine RunK.nil ?_))
    exact ⟨[_], ⟨rfl, trivial⟩, rfl⟩
end Go.Proofs.Ytomdikppahgofaa
