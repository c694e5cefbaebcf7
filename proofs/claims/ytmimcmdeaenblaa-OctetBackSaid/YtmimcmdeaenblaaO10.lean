/- A piece of a proof over this program: contracts of its functions, and a logic to prove them by. -/
import Derived.Test.YtmimcmdeaenblaaO9
import Derived.Test.YtmimcmdeaenblaaO6
namespace Go.Proofs.Ytmimcmdeaenblaa
open Go Go.Lg
variable (X : Nat → Option Obj)
abbrev Sb (b : Bool) : SV := .one (.val (.bool b))
abbrev Ss (l : List UInt8) : SV := .one (.val (.string ⟨l.toArray⟩))
theorem take_next {w n i : Nat} (h : i < w) : ((leB w n).take i).map bc ++ [bc (UInt8.ofNat (n / 256 ^ i % 256))] = ((leB w n).take (i + 1)).map bc := by
  rw [List.take_add_one, leB_get w n i h, List.map_append]
  rfl
theorem RNum_bad (w : Int) (n : Nat) (h : isW w = false) : PSpec Try.prog X 7 [Ln .i64 w, Ln .u64 (n : Nat)] (.tup [Ss [], Sb false]) := by
  have hn : w ≠ 1 ∧ w ≠ 2 ∧ w ≠ 4 ∧ w ≠ 8 := by
    have : ¬(isW w = true) := by rw [h]; simp
    rw [notW] at this
    omega
  obtain ⟨n1, n2, n4, n8⟩ := hn
  refine PSpec.intro Try.func7 rfl (by kernel_rfl) rfl rfl ?_
  intro C
  repeat (first | refine LWP.seq ?_ | refine LWP.ret ?_ | refine LWP.skip ?_ | refine LWP.block ?_ | refine LWP.exit ?_ | refine LWP.condT rfl ?_ | refine LWP.condF rfl ?_ | (refine LWP.region (id := 0) (by kernel_rfl) ?_; refine K.assign rfl .plain ?_; refine K.assign rfl .plain ?_; refine RunK.nil ?_) | (refine LWP.region (id := 1) (by kernel_rfl) ?_; refine K.move rfl .plain ?_; refine K.neq rfl rfl (by first | exact bne_iff_ne.2 (by omega) | exact (bne_eq_false_iff_eq.2 (by omega)) | rfl) .plain ?_; refine K.move rfl .plain ?_; (first | refine RunK.passed rfl rfl rfl ?_ | refine RunK.passedU rfl rfl ?_ | refine K.move rfl (.taken rfl rfl) ?_); (first | refine RunK.passed rfl rfl rfl ?_ | refine RunK.passedU rfl rfl ?_ | refine K.neq rfl rfl (by first | exact bne_iff_ne.2 (by omega) | exact (bne_eq_false_iff_eq.2 (by omega)) | rfl) (.taken rfl rfl) ?_); (first | refine K.pickT rfl rfl .plain ?_ | refine K.pickF rfl rfl .plain ?_); refine K.move rfl .plain ?_; (first | refine RunK.passed rfl rfl rfl ?_ | refine RunK.passedU rfl rfl ?_ | refine K.move rfl (.taken rfl rfl) ?_); (first | refine RunK.passed rfl rfl rfl ?_ | refine RunK.passedU rfl rfl ?_ | refine K.neq rfl rfl (by first | exact bne_iff_ne.2 (by omega) | exact (bne_eq_false_iff_eq.2 (by omega)) | rfl) (.taken rfl rfl) ?_); (first | refine K.pickT rfl rfl .plain ?_ | refine K.pickF rfl rfl .plain ?_); refine K.move rfl .plain ?_; (first | refine RunK.passed rfl rfl rfl ?_ | refine RunK.passedU rfl rfl ?_ | refine K.move rfl (.taken rfl rfl) ?_); (first | refine RunK.passed rfl rfl rfl ?_ | refine RunK.passedU rfl rfl ?_ | refine K.neq rfl rfl (by first | exact bne_iff_ne.2 (by omega) | exact (bne_eq_false_iff_eq.2 (by omega)) | rfl) (.taken rfl rfl) ?_); (first | refine K.pickT rfl rfl .plain ?_ | refine K.pickF rfl rfl .plain ?_); refine RunK.nil ?_) | (refine LWP.region (id := 2) (by kernel_rfl) ?_; refine K.assign rfl .plain ?_; refine K.assign rfl .plain ?_; refine RunK.nil ?_))
  exact ⟨[_, _], ⟨rfl, rfl, trivial⟩, rfl⟩
theorem RNum_w (w : Nat) (n : Nat) (hw : isW (w : Int) = true) (hn : n < 18446744073709551616) : PSpec Try.prog X 7 [Ln .i64 (w : Nat), Ln .u64 (n : Nat)] (if n < 256 ^ w then .tup [Ss (leB w n), Sb true] else .tup [Ss [], Sb false]) := by
  have hb := isW_bound hw
  refine PSpec.intro Try.func7 rfl (by kernel_rfl) rfl (by split <;> rfl) ?_
  intro C
  rcases notW.1 hw with h | h | h | h
  all_goals
    repeat (first | refine LWP.seq ?_ | refine LWP.ret ?_ | refine LWP.skip ?_ | refine LWP.block ?_ | refine LWP.exit ?_ | refine LWP.condT rfl ?_ | refine LWP.condF rfl ?_ | (refine LWP.region (id := 0) (by kernel_rfl) ?_; refine K.assign rfl .plain ?_; refine K.assign rfl .plain ?_; refine RunK.nil ?_) | (refine LWP.region (id := 1) (by kernel_rfl) ?_; refine K.move rfl .plain ?_; refine K.neq rfl rfl (by first | exact bne_iff_ne.2 (by omega) | exact (bne_eq_false_iff_eq.2 (by omega)) | rfl) .plain ?_; refine K.move rfl .plain ?_; (first | refine RunK.passed rfl rfl rfl ?_ | refine RunK.passedU rfl rfl ?_ | refine K.move rfl (.taken rfl rfl) ?_); (first | refine RunK.passed rfl rfl rfl ?_ | refine RunK.passedU rfl rfl ?_ | refine K.neq rfl rfl (by first | exact bne_iff_ne.2 (by omega) | exact (bne_eq_false_iff_eq.2 (by omega)) | rfl) (.taken rfl rfl) ?_); (first | refine K.pickT rfl rfl .plain ?_ | refine K.pickF rfl rfl .plain ?_); refine K.move rfl .plain ?_; (first | refine RunK.passed rfl rfl rfl ?_ | refine RunK.passedU rfl rfl ?_ | refine K.move rfl (.taken rfl rfl) ?_); (first | refine RunK.passed rfl rfl rfl ?_ | refine RunK.passedU rfl rfl ?_ | refine K.neq rfl rfl (by first | exact bne_iff_ne.2 (by omega) | exact (bne_eq_false_iff_eq.2 (by omega)) | rfl) (.taken rfl rfl) ?_); (first | refine K.pickT rfl rfl .plain ?_ | refine K.pickF rfl rfl .plain ?_); refine K.move rfl .plain ?_; (first | refine RunK.passed rfl rfl rfl ?_ | refine RunK.passedU rfl rfl ?_ | refine K.move rfl (.taken rfl rfl) ?_); (first | refine RunK.passed rfl rfl rfl ?_ | refine RunK.passedU rfl rfl ?_ | refine K.neq rfl rfl (by first | exact bne_iff_ne.2 (by omega) | exact (bne_eq_false_iff_eq.2 (by omega)) | rfl) (.taken rfl rfl) ?_); (first | refine K.pickT rfl rfl .plain ?_ | refine K.pickF rfl rfl .plain ?_); refine RunK.nil ?_) | (refine LWP.region (id := 3) (by kernel_rfl) ?_; refine K.buildSlc (zs := []) (sz := 1) (e := 5) (by kernel_rfl) rfl rfl (by exact rfl) rfl rfl rfl .plain ?_; refine K.assign rfl .plain ?_; refine RunK.nil ?_) | (refine LWP.region (id := 4) (by kernel_rfl) ?_; refine K.assign rfl .plain ?_; refine RunK.nil ?_))
    refine LWP.loop (fun m σ => ∃ (i : Nat) (row : Bool), i ≤ w ∧ m = w - i ∧ σ = ⟨[(0, Ln .i64 (w : Nat)), (1, Ln .u64 (n / 256 ^ i : Nat)), (6, .sv (.one (.slc 500 0 i))), (7, Ln .i64 (i : Nat))], [(500, some ⟨5, ((leB w n).take i).map bc, row⟩)], X⟩) w
      ⟨_, Le.ofR [(500, 22)] (by exact ⟨rfl, by rw [Nat.pow_zero, Nat.div_one]; rfl, rfl, rfl, trivial⟩) (by repeat' (first | exact trivial | refine And.intro ⟨_, rfl, ?_⟩ ?_ | refine And.intro ⟨_, rfl⟩ ?_ | rfl | exact Box.ren_bytes _ _ _ _)) (by exact rfl) (by exact rfl) (by repeat' (first | refine all_cons_true ?_ ?_ | rfl | exact bytes_inUse)) (by exact rfl) (by exact rfl), 0, false, Nat.zero_le _, rfl, rfl⟩ ?_
    rintro m σ ⟨i, row, hi, rfl, rfl⟩
    by_cases hlt : i < w
    · have hle : n / 256 ^ i ≤ n := Nat.div_le_self _ _
      have hd : n / 256 ^ i / 256 = n / 256 ^ (i + 1) := by rw [Nat.pow_succ, Nat.div_div_eq_div_mul]
      have hnc := take_next (n := n) hlt
      have hcl : (((leB w n).take i).map bc).length = i * 1 := by rw [List.length_map, List.length_take, leB_length]; omega
      have hv : IntKind.u8.wrap (((n / 256 ^ i : Nat) : Int) % 256) = ((UInt8.ofNat (n / 256 ^ i % 256)).toNat : Nat) := by
        rw [UInt8.toNat_ofNat', Nat.mod_eq_of_lt (Nat.mod_lt _ (by decide)), IntKind.wrap_u8]
        omega
      have hq : IntKind.u64.wrap (((n / 256 ^ i : Nat) : Int).tdiv 256) = ((n / 256 ^ (i + 1) : Nat) : Int) := by
        rw [← hd]
        clear hv hnc hd
        generalize n / 256 ^ i = q at *
        rw [quo_u64 (by omega) (by omega)]; omega
      repeat (first | refine LWP.seq ?_ | refine LWP.ret ?_ | refine LWP.skip ?_ | refine LWP.block ?_ | refine LWP.exit ?_ | refine LWP.condT rfl ?_ | refine LWP.condF rfl ?_ | (refine LWP.region (id := 5) (by kernel_rfl) ?_; refine K.move rfl .plain ?_; refine K.move rfl .plain ?_; refine K.lss rfl rfl (by first | exact decide_eq_true (by omega) | exact decide_eq_false (by omega) | rfl) .plain ?_; refine RunK.nil ?_) | (refine LWP.region (id := 6) (by kernel_rfl) ?_; refine K.move rfl .plain ?_; refine K.add rfl rfl (by first | exact wrap_i64 (by omega) | rfl) .plain ?_; refine K.assign rfl .plain ?_; refine RunK.nil ?_) | (refine LWP.region (id := 7) (by kernel_rfl) ?_; refine K.move rfl .plain ?_; refine K.move rfl .plain ?_; refine K.rem rfl rfl (by omega) (by first | exact rem_pos (by omega) | rfl) .plain ?_; refine K.conv rfl hv .plain ?_; refine K.buildSlc (zs := [.int .u8 0]) (sz := 1) (e := 5) (by kernel_rfl) rfl rfl (by exact rfl) rfl rfl rfl .plain ?_; refine K.appendSlc (by_ := 1) (e2 := 5) (l2 := [bc (UInt8.ofNat (n / 256 ^ i % 256))]) rfl rfl hcl rfl rfl (Nat.le_refl _) rfl rfl (by kernel_rfl) (by kernel_rfl) (by omega) (by omega) rfl rfl hnc .plain ?_; refine K.assign rfl .plain ?_; refine RunK.nil ?_) | (refine LWP.region (id := 8) (by kernel_rfl) ?_; refine K.move rfl .plain ?_; refine K.quo rfl rfl (by omega) hq .plain ?_; refine K.assign rfl .plain ?_; refine RunK.nil ?_))
      exact ⟨_, _, by omega, Le.ofR [(500, 33)] (by exact ⟨rfl, rfl, rfl, rfl, trivial⟩) (by repeat' (first | exact trivial | refine And.intro ⟨_, rfl, ?_⟩ ?_ | refine And.intro ⟨_, rfl⟩ ?_ | rfl | exact Box.ren_bytes _ _ _ _)) (by exact rfl) (by exact rfl) (by repeat' (first | refine all_cons_true ?_ ?_ | rfl | exact bytes_inUse)) (by exact rfl) (by exact rfl), i + 1, true, by omega, rfl, rfl⟩
    · have e : i = w := by omega
      subst e
      by_cases hf : n < 256 ^ i
      · have hz : ((n / 256 ^ i : Nat) : Int) = 0 := by rw [Nat.div_eq_of_lt hf]; rfl
        have hta : (leB i n).take i = leB i n := List.take_of_length_le (by rw [leB_length]; exact Nat.le_refl _)
        rw [if_pos hf, hz, hta]
        have hlen : 0 + i ≤ ((leB i n).map bc).length := by rw [List.length_map, leB_length]; omega
        have hcut : (((leB i n).map bc).drop 0).take i = (leB i n).map bc := by rw [List.drop_zero, List.take_of_length_le (by rw [List.length_map, leB_length]; exact Nat.le_refl _)]
        repeat (first | refine LWP.seq ?_ | refine LWP.ret ?_ | refine LWP.skip ?_ | refine LWP.block ?_ | refine LWP.exit ?_ | refine LWP.condT rfl ?_ | refine LWP.condF rfl ?_ | (refine LWP.region (id := 5) (by kernel_rfl) ?_; refine K.move rfl .plain ?_; refine K.move rfl .plain ?_; refine K.lss rfl rfl (by first | exact decide_eq_true (by omega) | exact decide_eq_false (by omega) | rfl) .plain ?_; refine RunK.nil ?_) | (refine LWP.region (id := 9) (by kernel_rfl) ?_; refine K.move rfl .plain ?_; refine K.neq rfl rfl (by first | exact bne_iff_ne.2 (by omega) | exact (bne_eq_false_iff_eq.2 (by omega)) | rfl) .plain ?_; refine RunK.nil ?_) | (refine LWP.region (id := 11) (by kernel_rfl) ?_; refine K.move rfl .plain ?_; refine K.convStr rfl rfl (by kernel_rfl) StrT.u hlen hcut .plain ?_; refine K.assign rfl .plain ?_; refine K.assign rfl .plain ?_; refine RunK.nil ?_))
        exact ⟨[_, _], ⟨rfl, rfl, trivial⟩, rfl⟩
      · have hz : ((n / 256 ^ i : Nat) : Int) ≠ 0 := by
          have := Nat.div_pos (Nat.le_of_not_lt hf) (Nat.pow_pos (n := i) (show 0 < 256 by decide)); omega
        rw [if_neg hf]
        repeat (first | refine LWP.seq ?_ | refine LWP.ret ?_ | refine LWP.skip ?_ | refine LWP.block ?_ | refine LWP.exit ?_ | refine LWP.condT rfl ?_ | refine LWP.condF rfl ?_ | (refine LWP.region (id := 5) (by kernel_rfl) ?_; refine K.move rfl .plain ?_; refine K.move rfl .plain ?_; refine K.lss rfl rfl (by first | exact decide_eq_true (by omega) | exact decide_eq_false (by omega) | rfl) .plain ?_; refine RunK.nil ?_) | (refine LWP.region (id := 9) (by kernel_rfl) ?_; refine K.move rfl .plain ?_; refine K.neq rfl rfl (by first | exact bne_iff_ne.2 (by omega) | exact (bne_eq_false_iff_eq.2 (by omega)) | rfl) .plain ?_; refine RunK.nil ?_) | (refine LWP.region (id := 10) (by kernel_rfl) ?_; refine K.assign rfl .plain ?_; refine K.assign rfl .plain ?_; refine RunK.nil ?_))
        exact ⟨[_, _], ⟨rfl, rfl, trivial⟩, rfl⟩
/-- the reference's answer for a number -/
theorem RNum_spec (w : Int) (n : Nat) (hn : n < 18446744073709551616) : PSpec Try.prog X 7 [Ln .i64 w, Ln .u64 (n : Nat)] (if fitW w n = true then .tup [Ss (leB w.toNat n), Sb true] else .tup [Ss [], Sb false]) := by
  cases hw : isW w with
  | false =>
    have : fitW w n = false := by unfold fitW; rw [hw]; rfl
    rw [this]
    exact RNum_bad X w n hw
  | true =>
    have hb := isW_bound hw
    have e : w = ((w.toNat : Nat) : Int) := by omega
    have h := RNum_w X w.toNat n (by rw [← e]; exact hw) hn
    rw [← e] at h
    have h2 : (fitW w n = true) = (n < 256 ^ w.toNat) := by unfold fitW; rw [hw]; simp
    simp only [h2]
    exact h
theorem RName_spec (s : List UInt8) (hs : s.length < 100000000) : PSpec Try.prog X 9 [Ls s] (if fitW 1 s.length = true then .tup [Ss (leB 1 s.length ++ s), Sb true] else .tup [Ss [], Sb false]) := by
  have hz : (⟨s.toArray⟩ : ByteArray).size = s.length := rfl
  have hN := RNum_spec X 1 s.length (by omega)
  refine PSpec.intro Try.func9 rfl (by kernel_rfl) rfl (by split <;> rfl) ?_
  intro C
  by_cases h : s.length < 256
  · have hf : fitW 1 s.length = true := by unfold fitW; rw [decide_eq_true (show s.length < 256 ^ (1 : Int).toNat from h)]; rfl
    rw [hf, if_pos rfl] at hN
    rw [hf, if_pos rfl]
    have wl : IntKind.u64.wrap (((⟨s.toArray⟩ : ByteArray).size : Nat) : Int) = (s.length : Nat) := by rw [wrap_u64 (by omega)]; rfl
    have hb : (⟨(leB 1 s.length).toArray⟩ : ByteArray).size = 1 := leB_length 1 _
    repeat (first | refine LWP.seq ?_ | refine LWP.ret ?_ | refine LWP.skip ?_ | refine LWP.block ?_ | refine LWP.exit ?_ | refine LWP.condT rfl ?_ | refine LWP.condF rfl ?_ | (refine LWP.region (id := 0) (by kernel_rfl) ?_; refine K.assign rfl .plain ?_; refine K.assign rfl .plain ?_; refine RunK.nil ?_) | (refine LWP.region (id := 1) (by kernel_rfl) ?_; refine K.move rfl .plain ?_; (first | refine K.lenStr rfl .plain ?_ | refine K.lenSlc rfl SliceT.h rfl .plain ?_ | refine K.lenX rfl SliceT.h rfl .plain ?_); refine K.gtr rfl rfl (by first | exact decide_eq_true (by omega) | exact decide_eq_false (by omega) | rfl) .plain ?_; refine RunK.nil ?_) | (refine LWP.region (id := 3) (by kernel_rfl) ?_; refine K.move rfl .plain ?_; (first | refine K.lenStr rfl .plain ?_ | refine K.lenSlc rfl SliceT.h rfl .plain ?_ | refine K.lenX rfl SliceT.h rfl .plain ?_); refine K.conv rfl wl .plain ?_; refine K.call rfl rfl (hN) .plain ?_; refine K.move rfl .plain ?_; refine K.extract rfl rfl .plain ?_; refine K.extract rfl rfl .plain ?_; refine K.assign rfl .plain ?_; refine K.assign rfl .plain ?_; refine RunK.nil ?_) | (refine LWP.region (id := 4) (by kernel_rfl) ?_; refine K.move rfl .plain ?_; refine K.move rfl .plain ?_; refine K.strAdd rfl rfl (by rw [show (⟨(leB (Int.toNat 1) s.length).toArray⟩ : ByteArray).size = 1 from hb]; omega) (str_add _ _) .plain ?_; refine K.assign rfl .plain ?_; refine K.assign rfl .plain ?_; refine RunK.nil ?_))
    exact ⟨[_, _], ⟨rfl, rfl, trivial⟩, rfl⟩
  · have hf : fitW 1 s.length = false := by unfold fitW; rw [decide_eq_false (show ¬ s.length < 256 ^ (1 : Int).toNat from h)]; rfl
    rw [hf, if_neg (by simp)]
    repeat (first | refine LWP.seq ?_ | refine LWP.ret ?_ | refine LWP.skip ?_ | refine LWP.block ?_ | refine LWP.exit ?_ | refine LWP.condT rfl ?_ | refine LWP.condF rfl ?_ | (refine LWP.region (id := 0) (by kernel_rfl) ?_; refine K.assign rfl .plain ?_; refine K.assign rfl .plain ?_; refine RunK.nil ?_) | (refine LWP.region (id := 1) (by kernel_rfl) ?_; refine K.move rfl .plain ?_; (first | refine K.lenStr rfl .plain ?_ | refine K.lenSlc rfl SliceT.h rfl .plain ?_ | refine K.lenX rfl SliceT.h rfl .plain ?_); refine K.gtr rfl rfl (by first | exact decide_eq_true (by omega) | exact decide_eq_false (by omega) | rfl) .plain ?_; refine RunK.nil ?_) | (refine LWP.region (id := 2) (by kernel_rfl) ?_; refine K.assign rfl .plain ?_; refine K.assign rfl .plain ?_; refine RunK.nil ?_))
    exact ⟨[_, _], ⟨rfl, rfl, trivial⟩, rfl⟩
theorem RPart_spec (s : List UInt8) (hs : s.length < 100000000) : PSpec Try.prog X 11 [Ls s] (Ls (leB 4 s.length ++ s)) := by
  have hz : (⟨s.toArray⟩ : ByteArray).size = s.length := rfl
  have hN := RNum_spec X 4 s.length (by omega)
  have hp : (256 : Nat) ^ (4 : Int).toNat = 4294967296 := by decide
  have hf : fitW 4 s.length = true := by unfold fitW; rw [decide_eq_true (show s.length < 256 ^ (4 : Int).toNat by rw [hp]; omega)]; rfl
  rw [hf, if_pos rfl] at hN
  refine PSpec.intro Try.func11 rfl (by kernel_rfl) rfl rfl ?_
  intro C
  have wl : IntKind.u64.wrap (((⟨s.toArray⟩ : ByteArray).size : Nat) : Int) = (s.length : Nat) := by rw [wrap_u64 (by omega)]; rfl
  have hb : (⟨(leB 4 s.length).toArray⟩ : ByteArray).size = 4 := leB_length 4 _
  repeat (first | refine LWP.seq ?_ | refine LWP.ret ?_ | refine LWP.skip ?_ | refine LWP.block ?_ | refine LWP.exit ?_ | refine LWP.condT rfl ?_ | refine LWP.condF rfl ?_ | (refine LWP.region (id := 0) (by kernel_rfl) ?_; refine K.assign rfl .plain ?_; refine RunK.nil ?_) | (refine LWP.region (id := 1) (by kernel_rfl) ?_; refine K.move rfl .plain ?_; (first | refine K.lenStr rfl .plain ?_ | refine K.lenSlc rfl SliceT.h rfl .plain ?_ | refine K.lenX rfl SliceT.h rfl .plain ?_); refine K.conv rfl wl .plain ?_; refine K.call rfl rfl (hN) .plain ?_; refine K.move rfl .plain ?_; refine K.extract rfl rfl .plain ?_; refine K.extract rfl rfl .plain ?_; refine K.assign rfl .plain ?_; refine K.assign rfl .plain ?_; refine RunK.nil ?_) | (refine LWP.region (id := 2) (by kernel_rfl) ?_; refine K.move rfl .plain ?_; refine K.move rfl .plain ?_; refine K.strAdd rfl rfl (by rw [show (⟨(leB (Int.toNat 4) s.length).toArray⟩ : ByteArray).size = 4 from hb]; omega) (str_add _ _) .plain ?_; refine K.assign rfl .plain ?_; refine RunK.nil ?_))
  exact ⟨[_], ⟨rfl, trivial⟩, rfl⟩
end Go.Proofs.Ytmimcmdeaenblaa
