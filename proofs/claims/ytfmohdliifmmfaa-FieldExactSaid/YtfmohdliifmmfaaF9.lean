/- A piece of a proof over this program: contracts of its functions, and a logic to prove them by. -/
import Derived.Test.YtfmohdliifmmfaaF8
namespace Go.Lg.Fld
open Go Go.Lg
theorem leB_mod : ∀ (w n m : Nat), n % 256 ^ w = m % 256 ^ w → leB w n = leB w m
  | 0, _, _, _ => rfl
  | w + 1, n, m, h => by
    rw [Nat.pow_succ, Nat.mul_comm] at h
    have h1 : n % 256 = m % 256 := by
      rw [← Nat.mod_mul_right_mod n 256 (256 ^ w), h, Nat.mod_mul_right_mod]
    have h2 : n / 256 % 256 ^ w = m / 256 % 256 ^ w := by
      rw [← Nat.mod_mul_right_div_self, h, Nat.mod_mul_right_div_self]
    show UInt8.ofNat (n % 256) :: leB w (n / 256) = UInt8.ofNat (m % 256) :: leB w (m / 256)
    rw [h1, leB_mod w _ _ h2]
/-- a number as one word -/
def w64 (x : Int) : Nat := (x % 18446744073709551616).toNat
theorem leB_w64 {k x : Int} (h : kK k = true) (hx : fitZ k x = true) : leB (kW k) (w64 x) = leB (kW k) (wdK k x) := by
  refine leB_mod _ _ _ ?_
  have h1 := kM_facts h
  have hf := kfacts k
  have hx2 := (fitZ_iff k x).1 hx
  have e : (w64 x : Int) % (kM k : Int) = (wdK k x : Int) % (kM k : Int) := by
    unfold w64 wdK
    rw [Int.toNat_of_nonneg (Int.emod_nonneg x (by decide)), Int.toNat_of_nonneg (Int.emod_nonneg x (by omega)), Int.emod_emod]
    refine Int.emod_emod_of_dvd x ?_
    unfold kM
    rcases kW_in h with e | e | e | e <;> rw [e] <;> decide
  have e2 : w64 x % kM k = wdK k x % kM k := by omega
  exact e2
end Go.Lg.Fld
namespace Go.Proofs.Ytfmohdliifmmfaa
open Go Go.Lg Go.Lg.Fld
set_option maxRecDepth 100000
variable (X : Nat → Option Obj)
set_option maxHeartbeats 1600000 in
theorem refPut_spec (k x : Int) (hk : kK k = true) (hx : fitZ k x = true) : PSpec Try.prog X 19 [Ln .i64 k, LQ x] (Ls (leB (kW k) (wdK k x))) := by
  have hB := refBytes_spec X k
  have hf := kfacts k
  have hx2 := (fitZ_iff k x).1 hx
  rw [← leB_w64 hk hx]
  have hn : w64 x < 18446744073709551616 := by unfold w64; omega
  refine PSpec.intro Try.func19 rfl (by kernel_rfl) rfl rfl ?_
  intro C
  have hcut : ∀ n : Nat, n = w64 x → (x < 0 → (n : Int) = x + 18446744073709551616) ∧ (0 ≤ x → (n : Int) = x) := fun n e => by
    subst e; unfold w64; exact ⟨fun h => by omega, fun h => by omega⟩
  obtain ⟨g1, g2⟩ := hcut _ rfl
  generalize w64 x = n at *
  obtain ⟨w, hw, hw8⟩ : ∃ w, kW k = w ∧ w ≤ 8 := ⟨_, rfl, hf.2.2.2.2⟩
  rw [hw] at hB ⊢
  by_cases c : x < 0
  · have hm : mg x % 18446744073709551616 = -x := by rw [mg_neg c]; omega
    have hs : IntKind.u64.wrap (0 - (-x)) = (n : Int) := by rw [IntKind.wrap_u64]; have := g1 c; omega
    unfold LQ LI
    rw [hm, decide_eq_true c]
    (refine LWP.seq <| LWP.region (by kernel_rfl) <| K.box rfl rfl rfl .plain <| kas rfl <| RunK.nil <| LWP.seq <| LWP.region (by kernel_rfl) <| kfa rfl rfl ?_; refine kl1 rfl rfl rfl <| kas rfl <| RunK.nil <| LWP.seq <| LWP.seq ?_)
    refine LWP.cut (fun σ => σ = ⟨[(0, Ln .i64 k), (5, Ln .u64 (n : Nat))], [], X⟩) ?_ ?_
    · (refine LWP.region (by kernel_rfl) <| kfa rfl rfl ?_; refine kl1 rfl rfl rfl <| RunK.nil <| LWP.condT rfl ?_; refine LWP.region (by kernel_rfl) <| kfa rfl rfl ?_; refine kl1 rfl rfl rfl <| K.sub rfl rfl hs .plain <| kas rfl <| RunK.nil ?_)
      exact ⟨_, Le.of (by exact ⟨rfl, rfl, trivial⟩) (by exact trivial) (by exact rfl) (by exact rfl) (by exact rfl), rfl⟩
    rintro σ rfl
    (refine LWP.seq <| LWP.region (by kernel_rfl) <| K.buildSlc (zs := []) (sz := 1) (e := 5) (by kernel_rfl) rfl rfl rfl rfl rfl rfl .plain <| kas rfl <| RunK.nil <| LWP.seq <| LWP.seq <| LWP.region (by kernel_rfl) <| kas rfl <| RunK.nil <| LWP.block ?_)
    refine LWP.loop (fun m σ => ∃ (i : Nat) (row : Bool), i ≤ w ∧ m = w - i ∧ σ = ⟨[(0, Ln .i64 k), (5, Ln .u64 (n / 256 ^ i : Nat)), (6, .sv (.one (.slc 500 0 i))), (7, Ln .i64 (i : Nat))], [(500, some ⟨5, ((leB w n).take i).map bc, row⟩)], X⟩) w
      ⟨_, Le.ofR [(500, 15)] (by exact ⟨rfl, by rw [Nat.pow_zero, Nat.div_one]; rfl, rfl, rfl, trivial⟩) (by repeat' (first | exact trivial | refine And.intro ⟨_, rfl, ?_⟩ ?_ | refine And.intro ⟨_, rfl⟩ ?_ | rfl | exact Box.ren_bytes _ _ _ _ | exact Box.ren_vals _ _ _ _)) (by exact rfl) (by exact rfl) (by repeat' (first | refine all_cons_true ?_ ?_ | rfl | exact bytes_inUse | exact vals_inUse)) (by exact rfl) (by exact rfl), 0, false, Nat.zero_le _, rfl, rfl⟩ ?_
    rintro m σ ⟨i, row, hi, rfl, rfl⟩
    by_cases hlt : i < w
    · have hle : n / 256 ^ i ≤ n := Nat.div_le_self _ _
      have hd : n / 256 ^ i / 256 = n / 256 ^ (i + 1) := by rw [Nat.pow_succ, Nat.div_div_eq_div_mul]
      have hnc := take_next (n := n) hlt
      have hcl : (((leB w n).take i).map bc).length = i * 1 := by rw [List.length_map, List.length_take, leB_length]; omega
      have hv : IntKind.u8.wrap (((n / 256 ^ i : Nat) : Int) % 256) = ((UInt8.ofNat (n / 256 ^ i % 256)).toNat : Nat) := by
        rw [UInt8.toNat_ofNat', Nat.mod_eq_of_lt (Nat.mod_lt _ (by decide)), IntKind.wrap_u8]
        omega
      have hq : IntKind.u64.wrap (((n / 256 ^ i : Nat) : Int).tdiv 256) = ((n / 256 ^ (i + 1) : Nat) : Int) := by
        rw [← hd]
        clear hv hnc hd
        generalize n / 256 ^ i = q at *
        rw [quo_u64 (by omega) (by omega)]; omega
      (refine LWP.seq <| LWP.seq <| LWP.region (by kernel_rfl) <| kmv rfl <| kmv rfl <| kca rfl rfl (hB) <| klt rfl rfl (decide_eq_true (by omega)) <| RunK.nil <| LWP.condT rfl ?_; refine LWP.skip ?_; refine LWP.seq <| LWP.block <| LWP.seq <| LWP.region (by kernel_rfl) <| kmv rfl <| kmv rfl <| K.rem rfl rfl (by omega) rfl .plain <| kcv rfl hv ?_; refine K.buildSlc (zs := [.int .u8 0]) (sz := 1) (e := 5) (by kernel_rfl) rfl rfl rfl rfl rfl rfl .plain <| K.appendSlc (by_ := 1) (e2 := 5) (l2 := [bc (UInt8.ofNat (n / 256 ^ i % 256))]) rfl rfl hcl rfl rfl (Nat.le_refl _) rfl rfl (by kernel_rfl) (by kernel_rfl) (by omega) (by omega) rfl rfl hnc .plain <| kas rfl <| RunK.nil <| LWP.region (by kernel_rfl) <| kmv rfl <| K.quo rfl rfl (by omega) hq .plain <| kas rfl <| RunK.nil <| LWP.region (by kernel_rfl) <| kmv rfl <| kad rfl rfl (wrap_i64 (by omega)) <| kas rfl <| RunK.nil ?_)
      exact ⟨_, _, by omega, Le.ofR [(500, 27)] (by exact ⟨rfl, rfl, rfl, rfl, trivial⟩) (by repeat' (first | exact trivial | refine And.intro ⟨_, rfl, ?_⟩ ?_ | refine And.intro ⟨_, rfl⟩ ?_ | rfl | exact Box.ren_bytes _ _ _ _ | exact Box.ren_vals _ _ _ _)) (by exact rfl) (by exact rfl) (by repeat' (first | refine all_cons_true ?_ ?_ | rfl | exact bytes_inUse | exact vals_inUse)) (by exact rfl) (by exact rfl), i + 1, true, by omega, rfl, rfl⟩
    · have e : i = w := by omega
      subst e
      have hta : (leB i n).take i = leB i n := List.take_of_length_le (by rw [leB_length]; exact Nat.le_refl _)
      rw [hta]
      have hlen : 0 + i ≤ ((leB i n).map bc).length := by rw [List.length_map, leB_length]; omega
      have hend : (((leB i n).map bc).drop 0).take i = (leB i n).map bc := by rw [List.drop_zero, List.take_of_length_le (by rw [List.length_map, leB_length]; exact Nat.le_refl _)]
      (refine LWP.seq <| LWP.seq <| LWP.region (by kernel_rfl) <| kmv rfl <| kmv rfl <| kca rfl rfl (hB) <| klt rfl rfl (decide_eq_false (by omega)) <| RunK.nil <| LWP.condF rfl ?_; refine LWP.exit <| LWP.seq <| LWP.region (by kernel_rfl) <| kmv rfl <| K.convStr rfl rfl (by kernel_rfl) StrT.u hlen hend .plain <| kas rfl <| RunK.nil <| LWP.ret ?_)
      exact ⟨[_], ⟨rfl, trivial⟩, rfl⟩
  · have hm : mg x % 18446744073709551616 = (n : Int) := by rw [mg_pos (by omega)]; have := g2 (by omega); omega
    unfold LQ LI
    rw [hm, decide_eq_false c]
    (refine LWP.seq <| LWP.region (by kernel_rfl) <| K.box rfl rfl rfl .plain <| kas rfl <| RunK.nil <| LWP.seq <| LWP.region (by kernel_rfl) <| kfa rfl rfl ?_; refine kl1 rfl rfl rfl <| kas rfl <| RunK.nil <| LWP.seq <| LWP.seq ?_)
    refine LWP.cut (fun σ => σ = ⟨[(0, Ln .i64 k), (5, Ln .u64 (n : Nat))], [], X⟩) ?_ ?_
    · (refine LWP.region (by kernel_rfl) <| kfa rfl rfl ?_; refine kl1 rfl rfl rfl <| RunK.nil <| LWP.condF rfl ?_; refine LWP.skip ?_)
      exact ⟨_, Le.of (by exact ⟨rfl, rfl, trivial⟩) (by exact trivial) (by exact rfl) (by exact rfl) (by exact rfl), rfl⟩
    rintro σ rfl
    (refine LWP.seq <| LWP.region (by kernel_rfl) <| K.buildSlc (zs := []) (sz := 1) (e := 5) (by kernel_rfl) rfl rfl rfl rfl rfl rfl .plain <| kas rfl <| RunK.nil <| LWP.seq <| LWP.seq <| LWP.region (by kernel_rfl) <| kas rfl <| RunK.nil <| LWP.block ?_)
    refine LWP.loop (fun m σ => ∃ (i : Nat) (row : Bool), i ≤ w ∧ m = w - i ∧ σ = ⟨[(0, Ln .i64 k), (5, Ln .u64 (n / 256 ^ i : Nat)), (6, .sv (.one (.slc 500 0 i))), (7, Ln .i64 (i : Nat))], [(500, some ⟨5, ((leB w n).take i).map bc, row⟩)], X⟩) w
      ⟨_, Le.ofR [(500, 15)] (by exact ⟨rfl, by rw [Nat.pow_zero, Nat.div_one]; rfl, rfl, rfl, trivial⟩) (by repeat' (first | exact trivial | refine And.intro ⟨_, rfl, ?_⟩ ?_ | refine And.intro ⟨_, rfl⟩ ?_ | rfl | exact Box.ren_bytes _ _ _ _ | exact Box.ren_vals _ _ _ _)) (by exact rfl) (by exact rfl) (by repeat' (first | refine all_cons_true ?_ ?_ | rfl | exact bytes_inUse | exact vals_inUse)) (by exact rfl) (by exact rfl), 0, false, Nat.zero_le _, rfl, rfl⟩ ?_
    rintro m σ ⟨i, row, hi, rfl, rfl⟩
    by_cases hlt : i < w
    · have hle : n / 256 ^ i ≤ n := Nat.div_le_self _ _
      have hd : n / 256 ^ i / 256 = n / 256 ^ (i + 1) := by rw [Nat.pow_succ, Nat.div_div_eq_div_mul]
      have hnc := take_next (n := n) hlt
      have hcl : (((leB w n).take i).map bc).length = i * 1 := by rw [List.length_map, List.length_take, leB_length]; omega
      have hv : IntKind.u8.wrap (((n / 256 ^ i : Nat) : Int) % 256) = ((UInt8.ofNat (n / 256 ^ i % 256)).toNat : Nat) := by
        rw [UInt8.toNat_ofNat', Nat.mod_eq_of_lt (Nat.mod_lt _ (by decide)), IntKind.wrap_u8]
        omega
      have hq : IntKind.u64.wrap (((n / 256 ^ i : Nat) : Int).tdiv 256) = ((n / 256 ^ (i + 1) : Nat) : Int) := by
        rw [← hd]
        clear hv hnc hd
        generalize n / 256 ^ i = q at *
        rw [quo_u64 (by omega) (by omega)]; omega
      (refine LWP.seq <| LWP.seq <| LWP.region (by kernel_rfl) <| kmv rfl <| kmv rfl <| kca rfl rfl (hB) <| klt rfl rfl (decide_eq_true (by omega)) <| RunK.nil <| LWP.condT rfl ?_; refine LWP.skip ?_; refine LWP.seq <| LWP.block <| LWP.seq <| LWP.region (by kernel_rfl) <| kmv rfl <| kmv rfl <| K.rem rfl rfl (by omega) rfl .plain <| kcv rfl hv ?_; refine K.buildSlc (zs := [.int .u8 0]) (sz := 1) (e := 5) (by kernel_rfl) rfl rfl rfl rfl rfl rfl .plain <| K.appendSlc (by_ := 1) (e2 := 5) (l2 := [bc (UInt8.ofNat (n / 256 ^ i % 256))]) rfl rfl hcl rfl rfl (Nat.le_refl _) rfl rfl (by kernel_rfl) (by kernel_rfl) (by omega) (by omega) rfl rfl hnc .plain <| kas rfl <| RunK.nil <| LWP.region (by kernel_rfl) <| kmv rfl <| K.quo rfl rfl (by omega) hq .plain <| kas rfl <| RunK.nil <| LWP.region (by kernel_rfl) <| kmv rfl <| kad rfl rfl (wrap_i64 (by omega)) <| kas rfl <| RunK.nil ?_)
      exact ⟨_, _, by omega, Le.ofR [(500, 27)] (by exact ⟨rfl, rfl, rfl, rfl, trivial⟩) (by repeat' (first | exact trivial | refine And.intro ⟨_, rfl, ?_⟩ ?_ | refine And.intro ⟨_, rfl⟩ ?_ | rfl | exact Box.ren_bytes _ _ _ _ | exact Box.ren_vals _ _ _ _)) (by exact rfl) (by exact rfl) (by repeat' (first | refine all_cons_true ?_ ?_ | rfl | exact bytes_inUse | exact vals_inUse)) (by exact rfl) (by exact rfl), i + 1, true, by omega, rfl, rfl⟩
    · have e : i = w := by omega
      subst e
      have hta : (leB i n).take i = leB i n := List.take_of_length_le (by rw [leB_length]; exact Nat.le_refl _)
      rw [hta]
      have hlen : 0 + i ≤ ((leB i n).map bc).length := by rw [List.length_map, leB_length]; omega
      have hend : (((leB i n).map bc).drop 0).take i = (leB i n).map bc := by rw [List.drop_zero, List.take_of_length_le (by rw [List.length_map, leB_length]; exact Nat.le_refl _)]
      (refine LWP.seq <| LWP.seq <| LWP.region (by kernel_rfl) <| kmv rfl <| kmv rfl <| kca rfl rfl (hB) <| klt rfl rfl (decide_eq_false (by omega)) <| RunK.nil <| LWP.condF rfl ?_; refine LWP.exit <| LWP.seq <| LWP.region (by kernel_rfl) <| kmv rfl <| K.convStr rfl rfl (by kernel_rfl) StrT.u hlen hend .plain <| kas rfl <| RunK.nil <| LWP.ret ?_)
      exact ⟨[_], ⟨rfl, trivial⟩, rfl⟩
theorem last_of {l : List UInt8} {w : Nat} {c : UInt8} (hl : l.length = w + 1) (hc : l[w]? = some c) : le l = le (l.take w) + c.toNat * 256 ^ w ∧ le (l.take w) < 256 ^ w := by
  have h := le_take hc
  rw [List.take_of_length_le (by omega)] at h
  have h2 := le_lt (l.take w)
  rw [List.length_take, Nat.min_eq_left (by omega)] at h2
  exact ⟨h, h2⟩
theorem drop_le {l : List UInt8} {i : Nat} {c : UInt8} (h : l[i]? = some c) : le (l.drop i) = c.toNat + 256 * le (l.drop (i + 1)) := by
  obtain ⟨hi, e⟩ := List.getElem?_eq_some_iff.1 h
  rw [List.drop_eq_getElem_cons hi, e]
  rfl
theorem refGet_short (k : Int) (l : List UInt8) (h : l.length ≠ kW k ∨ l.length = 0) : PSpec Try.prog X 24 [Ln .i64 k, Ls l] (.tup [S0, Sb false]) := by
  have hB := refBytes_spec X k
  have hz : (⟨l.toArray⟩ : ByteArray).size = l.length := rfl
  refine PSpec.intro Try.func24 rfl (by kernel_rfl) rfl rfl ?_
  intro C
  by_cases h1 : l.length = kW k
  · rw [← h1] at hB
    (refine LWP.seq <| LWP.region (by kernel_rfl) <| K.alloc rfl .plain ?_; refine kas rfl <| RunK.nil <| LWP.seq <| LWP.seq <| LWP.region (by kernel_rfl) <| kmv rfl <| kln rfl <| kmv rfl <| kca rfl rfl (hB) <| kne rfl rfl ((bne_eq_false_iff_eq.2 (by omega))) <| kmv rfl <| gmv rfl rfl rfl <| K.lenStr rfl (.taken rfl rfl) ?_; refine K.eql rfl rfl (beq_iff_eq.2 (by omega)) (.taken rfl rfl) ?_; refine kpf rfl rfl <| RunK.nil <| LWP.condT rfl ?_; refine LWP.seq <| LWP.region (by kernel_rfl) <| K.build rfl rfl (by exact rfl) (by exact nl3 rfl rfl rfl rfl) .plain ?_; refine K.storeAll rfl rfl rfl rfl rfl rfl .plain ?_; refine kas rfl <| RunK.nil <| LWP.ret ?_)
    exact ⟨[_, _], ⟨⟨_, _, rfl, rfl, rfl, .inl ⟨AggT.h, rfl⟩⟩, rfl, trivial⟩, rfl⟩
  · (refine LWP.seq <| LWP.region (by kernel_rfl) <| K.alloc rfl .plain ?_; refine kas rfl <| RunK.nil <| LWP.seq <| LWP.seq <| LWP.region (by kernel_rfl) <| kmv rfl <| kln rfl <| kmv rfl <| kca rfl rfl (hB) <| kne rfl rfl (bne_iff_ne.2 (by omega)) <| kmv rfl <| RunK.passed rfl rfl rfl <| RunK.passed rfl rfl rfl <| RunK.passed rfl rfl rfl ?_; refine kpt rfl rfl <| RunK.nil <| LWP.condT rfl ?_; refine LWP.seq <| LWP.region (by kernel_rfl) <| K.build rfl rfl (by exact rfl) (by exact nl3 rfl rfl rfl rfl) .plain ?_; refine K.storeAll rfl rfl rfl rfl rfl rfl .plain ?_; refine kas rfl <| RunK.nil <| LWP.ret ?_)
    exact ⟨[_, _], ⟨⟨_, _, rfl, rfl, rfl, .inl ⟨AggT.h, rfl⟩⟩, rfl, trivial⟩, rfl⟩
end Go.Proofs.Ytfmohdliifmmfaa
