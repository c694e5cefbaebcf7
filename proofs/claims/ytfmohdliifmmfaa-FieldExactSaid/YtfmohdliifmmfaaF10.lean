/- A piece of a proof over this program: contracts of its functions, and a logic to prove them by. -/
import Derived.Test.YtfmohdliifmmfaaF9
namespace Go.Lg.Fld
open Go Go.Lg
theorem kM_sig {k : Int} (h : 2 ≤ k ∧ k ≤ 5) : kB k + kA k + 1 = (kM k : Int) := by
  have hc : k = 2 ∨ k = 3 ∨ k = 4 ∨ k = 5 := by omega
  rcases hc with rfl | rfl | rfl | rfl <;> decide
theorem kM_uns {k : Int} (h : 6 ≤ k ∧ k ≤ 10) : kA k + 1 = (kM k : Int) := by
  have hc : k = 6 ∨ k = 7 ∨ k = 8 ∨ k = 9 ∨ k = 10 := by omega
  rcases hc with rfl | rfl | rfl | rfl | rfl <;> decide
theorem sig_iff {k : Int} (h : 2 ≤ k ∧ k ≤ 5) {w c t : Nat} (hw : kW k = w + 1) (ht : t < 256 ^ w) : 127 < c ↔ kA k < ((t + c * 256 ^ w : Nat) : Int) := by
  have hc : k = 2 ∨ k = 3 ∨ k = 4 ∨ k = 5 := by omega
  rcases hc with rfl | rfl | rfl | rfl
  · have e : w = 0 := by have : kW 2 = 1 := by decide
                         omega
    subst e
    have : kA 2 = 127 := by decide
    omega
  · have e : w = 1 := by have : kW 3 = 2 := by decide
                         omega
    subst e
    have : kA 3 = 32767 := by decide
    omega
  · have e : w = 3 := by have : kW 4 = 4 := by decide
                         omega
    subst e
    have : kA 4 = 2147483647 := by decide
    omega
  · have e : w = 7 := by have : kW 5 = 8 := by decide
                         omega
    subst e
    have : kA 5 = 9223372036854775807 := by decide
    omega
end Go.Lg.Fld
namespace Go.Proofs.Ytfmohdliifmmfaa
open Go Go.Lg Go.Lg.Fld
set_option maxRecDepth 100000
variable (X : Nat → Option Obj)
/-- what the reference's Get answers -/
def getR (k : Int) (v : Nat) : LV := if fitZ k (nbK k v) = true then .tup [SQ (nbK k v), Sb true] else .tup [S0, Sb false]
theorem getR_pos {k : Int} {v : Nat} (h : (v : Int) ≤ kA k) : getR k v = .tup [.agg [.val (.bool false), .val (.int .u64 0), .val (.int .u64 (v : Nat))], Sb true] := by
  have hf := kfacts k
  have e : nbK k v = v := if_neg (by omega)
  unfold getR
  rw [e, if_pos ((fitZ_iff k _).2 (by omega)), SQ_pos (by omega)]
theorem getR_neg {k : Int} {v : Nat} (hk : 2 ≤ k ∧ k ≤ 5) (h : kA k < v) (hv : v < kM k) (p : Int) (hp : (kM k : Int) - v = p) : getR k v = .tup [.agg [.val (.bool true), .val (.int .u64 0), .val (.int .u64 p)], Sb true] := by
  have hf := kfacts k
  have hs := kM_sig hk
  have h2 := kM_facts (k := k) (by rw [kK_iff]; omega)
  have e : nbK k v = -p := by unfold nbK; rw [if_pos h]; omega
  unfold getR
  rw [e, if_pos ((fitZ_iff k _).2 (by omega)), SQ_neg (by omega)]
theorem getR_bool {v : Nat} (h : 1 < v) (hv : v < 256) : getR 1 v = .tup [S0, Sb false] := by
  have hA : kA 1 = 1 := by decide
  have e : nbK 1 v = (v : Int) - 256 := by
    unfold nbK
    rw [if_pos (by omega)]
    rfl
  unfold getR
  rw [e, if_neg]
  intro hc
  rw [fitZ_iff] at hc
  have : kB 1 = 0 := by decide
  omega
set_option maxHeartbeats 3200000 in
theorem refGet_q (k : Int) (l : List UInt8) (hk : kK k = true) (hn : l.length = kW k) : PSpec Try.prog X 24 [Ln .i64 k, Ls l] (getR k (le l)) := by
  have hB := refBytes_spec X k
  have hz : (⟨l.toArray⟩ : ByteArray).size = l.length := rfl
  have hf := kfacts k
  have hM := kM_facts hk
  have hkk := (kK_iff k).1 hk
  have hk0 : kW k ≠ 0 := fun e => by rw [kW_zero] at e; rw [hk] at e; cases e
  obtain ⟨w, hw⟩ : ∃ w, kW k = w + 1 := ⟨kW k - 1, by omega⟩
  have hw8 : w < 8 := by omega
  obtain ⟨c, hc⟩ : ∃ c, l[w]? = some c := ⟨_, List.getElem?_eq_getElem (by omega)⟩
  obtain ⟨hlast, hinit⟩ := last_of (by omega) hc
  have hsig : 2 ≤ k ∧ k ≤ 5 → (127 < c.toNat ↔ kA k < (le l : Nat)) := fun h => by rw [hlast]; exact sig_iff h hw hinit
  have hlt : le l < kM k := by
    have := le_lt l
    rw [hn] at this
    exact this
  have hcl := c.toNat_lt
  have hM8 : kM k = 256 ^ (w + 1) := by unfold kM; rw [hw]
  rw [hw] at hB
  refine PSpec.intro Try.func24 rfl (by kernel_rfl) rfl (by unfold getR; split <;> rfl) ?_
  intro C
  (refine LWP.seq <| LWP.region (by kernel_rfl) <| K.alloc rfl .plain ?_; refine kas rfl <| RunK.nil <| LWP.seq <| LWP.seq <| LWP.region (by kernel_rfl) <| kmv rfl <| kln rfl <| kmv rfl <| kca rfl rfl (hB) <| kne rfl rfl ((bne_eq_false_iff_eq.2 (by omega))) <| kmv rfl <| gmv rfl rfl rfl <| K.lenStr rfl (.taken rfl rfl) ?_; refine K.eql rfl rfl (beq_eq_false_iff_ne.2 (by omega)) (.taken rfl rfl) ?_; refine kpf rfl rfl <| RunK.nil <| LWP.condF rfl ?_; refine LWP.skip ?_; refine LWP.seq <| LWP.region (by kernel_rfl) <| kas rfl <| RunK.nil <| LWP.seq <| LWP.seq <| LWP.region (by kernel_rfl) <| kmv rfl <| kln rfl <| K.sub rfl rfl (wrap_i64 (by omega)) .plain <| kas rfl <| RunK.nil <| LWP.block ?_)
  refine LWP.loop (fun m σ => ∃ j : Nat, j ≤ w + 1 ∧ m = j ∧ σ = ⟨[(0, Ln .i64 k), (1, Ls l), (4, .sv (.one (.ptr 4 0))), (6, Ln .u64 (le (l.drop j) : Nat)), (7, Ln .i64 ((j : Int) - 1))], [(4, some { elem := 25, cells := cI false 0 })], X⟩) (w + 1)
    ⟨_, Le.of (by exact ⟨rfl, rfl, rfl, by rw [List.drop_of_length_le (show l.length ≤ l.length from Nat.le_refl _)]; rfl, rfl, trivial⟩) (by exact ⟨rfl, trivial⟩) (by exact rfl) (by exact rfl) (by exact rfl), l.length, by omega, by omega, rfl⟩ ?_
  rintro j σ ⟨_, hj, rfl, rfl⟩
  cases j with
  | succ i =>
    rw [show ((i + 1 : Nat) : Int) - 1 = (i : Int) by omega]
    obtain ⟨d, hd⟩ : ∃ d, l[i]? = some d := ⟨_, List.getElem?_eq_getElem (by omega)⟩
    have hdl := d.toNat_lt
    have hq := drop_le hd
    have hb := le_lt (l.drop i)
    have hp : 256 ^ (l.drop i).length ≤ 256 ^ 8 := Nat.pow_le_pow_right (by decide) (by rw [List.length_drop]; omega)
    rw [show (256 : Nat) ^ 8 = 18446744073709551616 by decide] at hp
    generalize hq2 : le (l.drop i) = q' at *
    generalize le (l.drop (i + 1)) = q at *
    have ha : IntKind.u64.wrap ((q : Int) * 256 + (d.toNat : Nat)) = (q' : Int) := by rw [wrap_u64 (by omega)]; omega
    (refine LWP.seq <| LWP.seq <| LWP.region (by kernel_rfl) <| kmv rfl <| K.geq rfl rfl (decide_eq_true (by omega)) .plain <| RunK.nil <| LWP.condT rfl ?_; refine LWP.skip ?_; refine LWP.seq <| LWP.block <| LWP.region (by kernel_rfl) <| kmv rfl <| K.mul rfl rfl (wrap_u64 (by omega)) .plain <| kmv rfl <| kmv rfl <| K.indexStr rfl rfl (by omega) (str_at hd) .plain <| kcv rfl (by exact wrap_u64 (by omega)) ?_; refine kad rfl rfl ha <| kas rfl <| RunK.nil <| LWP.region (by kernel_rfl) <| kmv rfl <| K.sub rfl rfl (wrap_i64 (by omega)) .plain <| kas rfl <| RunK.nil ?_)
    exact ⟨i, _, by omega, Le.of (by exact ⟨rfl, rfl, rfl, by rw [hq2]; rfl, rfl, trivial⟩) (by exact ⟨rfl, trivial⟩) (by exact rfl) (by exact rfl) (by exact rfl), i, by omega, rfl, rfl⟩
  | zero =>
    rw [show l.drop 0 = l from rfl]
    have hlen : IntKind.i64.wrap (((⟨l.toArray⟩ : ByteArray).size : Int) - 1) = (w : Int) := by rw [wrap_i64 (by omega)]; omega
    generalize le l = v at *
    by_cases h5 : 2 ≤ k ∧ k ≤ 5
    · obtain ⟨h2, h5⟩ := h5
      by_cases hbig : 127 < c.toNat
      · have hgt := (hsig ⟨h2, h5⟩).1 hbig
        rw [getR_neg ⟨h2, h5⟩ hgt hlt _ rfl]
        by_cases hk5 : k = 5
        · subst hk5
          have hM5 : kM 5 = 18446744073709551616 := by decide
          have hs : IntKind.u64.wrap (0 - (v : Int)) = (kM 5 : Int) - v := by rw [IntKind.wrap_u64, hM5]; omega
          have hw7 : (kW 5) = 8 := by decide
          (refine LWP.seq <| LWP.seq <| LWP.region (by kernel_rfl) <| kmv rfl <| K.geq rfl rfl (decide_eq_false (by omega)) .plain <| RunK.nil <| LWP.condF rfl ?_; refine LWP.exit <| LWP.seq <| LWP.region (by kernel_rfl) <| kmv rfl <| K.build rfl rfl (by exact rfl) (by exact nl3 rfl rfl rfl rfl) .plain ?_; refine K.alloc rfl .plain ?_; refine K.storeAll rfl rfl rfl rfl rfl rfl .plain ?_; refine RunK.nil <| LWP.seq <| LWP.seq <| LWP.region (by kernel_rfl) <| kmv rfl <| K.geq rfl rfl (decide_eq_true (by omega)) .plain <| kmv rfl <| gmv rfl rfl rfl <| K.leq rfl rfl (decide_eq_true (by omega)) (.taken rfl rfl) ?_; refine kpt rfl rfl <| kmv rfl <| gmv rfl rfl rfl <| gmv rfl rfl rfl <| K.lenStr rfl (.taken rfl rfl) ?_; refine K.sub rfl rfl hlen (.taken rfl rfl) ?_; refine K.indexStr rfl rfl (by omega) (str_at hc) (.taken rfl rfl) ?_; refine K.gtr rfl rfl (decide_eq_true (by omega)) (.taken rfl rfl) ?_; refine kpt rfl rfl <| RunK.nil <| LWP.condT rfl ?_; refine LWP.seq <| LWP.region (by kernel_rfl) <| kas rfl <| RunK.nil <| LWP.seq <| LWP.seq <| LWP.region (by kernel_rfl) <| kmv rfl <| kln rfl <| klt rfl rfl (decide_eq_false (by omega)) <| RunK.nil <| LWP.condF rfl ?_; refine LWP.skip ?_; refine LWP.region (by kernel_rfl) <| kmv rfl <| kmv rfl <| K.sub rfl rfl hs .plain <| K.build rfl rfl (by exact rfl) (by exact nl3 rfl rfl rfl rfl) .plain ?_; refine K.storeAll rfl rfl rfl rfl rfl rfl .plain ?_; refine RunK.nil <| LWP.seq <| LWP.seq <| LWP.region (by kernel_rfl) <| kmv rfl <| keq rfl rfl (beq_eq_false_iff_ne.2 (by omega)) <| kmv rfl <| RunK.passed rfl rfl rfl <| RunK.passed rfl rfl rfl <| kpf rfl rfl <| RunK.nil <| LWP.condF rfl ?_; refine LWP.skip ?_; refine LWP.seq <| LWP.region (by kernel_rfl) <| K.loadAll rfl rfl rfl .plain ?_; refine K.storeAll rfl rfl rfl rfl rfl rfl .plain ?_; refine kas rfl <| RunK.nil <| LWP.ret ?_)
          exact ⟨[_, _], ⟨⟨_, _, rfl, rfl, rfl, .inl ⟨AggT.h, rfl⟩⟩, rfl, trivial⟩, rfl⟩
        · have hw4 : kW k < 8 := by
            have h : k = 2 ∨ k = 3 ∨ k = 4 := by omega
            rcases h with rfl | rfl | rfl <;> decide
          (refine LWP.seq <| LWP.seq <| LWP.region (by kernel_rfl) <| kmv rfl <| K.geq rfl rfl (decide_eq_false (by omega)) .plain <| RunK.nil <| LWP.condF rfl ?_; refine LWP.exit <| LWP.seq <| LWP.region (by kernel_rfl) <| kmv rfl <| K.build rfl rfl (by exact rfl) (by exact nl3 rfl rfl rfl rfl) .plain ?_; refine K.alloc rfl .plain ?_; refine K.storeAll rfl rfl rfl rfl rfl rfl .plain ?_; refine RunK.nil <| LWP.seq <| LWP.seq <| LWP.region (by kernel_rfl) <| kmv rfl <| K.geq rfl rfl (decide_eq_true (by omega)) .plain <| kmv rfl <| gmv rfl rfl rfl <| K.leq rfl rfl (decide_eq_true (by omega)) (.taken rfl rfl) ?_; refine kpt rfl rfl <| kmv rfl <| gmv rfl rfl rfl <| gmv rfl rfl rfl <| K.lenStr rfl (.taken rfl rfl) ?_; refine K.sub rfl rfl hlen (.taken rfl rfl) ?_; refine K.indexStr rfl rfl (by omega) (str_at hc) (.taken rfl rfl) ?_; refine K.gtr rfl rfl (decide_eq_true (by omega)) (.taken rfl rfl) ?_; refine kpt rfl rfl <| RunK.nil <| LWP.condT rfl ?_; refine LWP.seq <| LWP.region (by kernel_rfl) <| kas rfl <| RunK.nil <| LWP.seq <| LWP.seq <| LWP.region (by kernel_rfl) <| kmv rfl <| kln rfl <| klt rfl rfl (decide_eq_true (by omega)) <| RunK.nil <| LWP.condT rfl ?_; refine LWP.seq <| LWP.region (by kernel_rfl) <| kas rfl <| RunK.nil <| LWP.seq <| LWP.region (by kernel_rfl) <| kas rfl <| RunK.nil <| LWP.block ?_)
          refine LWP.meet (fun σ => σ = ⟨[(0, Ln .i64 k), (1, Ls l), (4, .sv (.one (.ptr 4 0))), (6, Ln .u64 (v : Nat)), (8, .sv (.one (.ptr 8 0))), (9, Ln .u64 (kM k : Nat))], [(4, some { elem := 25, cells := cI false 0 }), (8, some { elem := 25, cells := [.val (.bool false), .val (.int .u64 0), .val (.int .u64 (v : Nat))] })], X⟩) ?_ ?_
          · refine LWP.loop (fun m σ => ∃ i : Nat, i ≤ w + 1 ∧ m = w + 1 - i ∧ σ = ⟨[(0, Ln .i64 k), (1, Ls l), (4, .sv (.one (.ptr 4 0))), (6, Ln .u64 (v : Nat)), (8, .sv (.one (.ptr 8 0))), (9, Ln .u64 (256 ^ i : Nat)), (10, Ln .i64 (i : Nat))], [(4, some { elem := 25, cells := cI false 0 }), (8, some { elem := 25, cells := [.val (.bool false), .val (.int .u64 0), .val (.int .u64 (v : Nat))] })], X⟩) (w + 1)
              ⟨_, Le.of (by exact ⟨rfl, rfl, rfl, rfl, rfl, rfl, rfl, trivial⟩) (by exact ⟨rfl, rfl, trivial⟩) (by exact rfl) (by exact rfl) (by exact rfl), 0, by omega, rfl, rfl⟩ ?_
            rintro m σ ⟨i, hi, rfl, rfl⟩
            by_cases hlt2 : i < w + 1
            · have hp : 256 ^ i * 256 = 256 ^ (i + 1) := (Nat.pow_succ ..).symm
              have hle : 256 ^ (i + 1) ≤ 256 ^ 7 := Nat.pow_le_pow_right (by decide) (by omega)
              rw [show (256 : Nat) ^ 7 = 72057594037927936 by decide] at hle
              have hm : IntKind.u64.wrap (((256 ^ i : Nat) : Int) * 256) = ((256 ^ (i + 1) : Nat) : Int) := by
                rw [← hp]
                generalize 256 ^ i = q at *
                rw [wrap_u64 (by omega)]; omega
              (refine LWP.seq <| LWP.seq <| LWP.region (by kernel_rfl) <| kmv rfl <| kmv rfl <| kln rfl <| klt rfl rfl (decide_eq_true (by omega)) <| RunK.nil <| LWP.condT rfl ?_; refine LWP.skip ?_; refine LWP.seq <| LWP.block <| LWP.region (by kernel_rfl) <| kmv rfl <| K.mul rfl rfl hm .plain <| kas rfl <| RunK.nil <| LWP.region (by kernel_rfl) <| kmv rfl <| kad rfl rfl (wrap_i64 (by omega)) <| kas rfl <| RunK.nil ?_)
              exact ⟨_, _, by omega, Le.of (by exact ⟨rfl, rfl, rfl, rfl, rfl, rfl, rfl, trivial⟩) (by exact ⟨rfl, rfl, trivial⟩) (by exact rfl) (by exact rfl) (by exact rfl), i + 1, by omega, rfl, rfl⟩
            · have e : i = w + 1 := by omega
              subst e
              (refine LWP.seq <| LWP.seq <| LWP.region (by kernel_rfl) <| kmv rfl <| kmv rfl <| kln rfl <| klt rfl rfl (decide_eq_false (by omega)) <| RunK.nil <| LWP.condF rfl ?_; refine LWP.exit ?_)
              exact ⟨_, Le.of (by exact ⟨rfl, rfl, rfl, rfl, rfl, by rw [hM8]; rfl, trivial⟩) (by exact ⟨rfl, rfl, trivial⟩) (by exact rfl) (by exact rfl) (by exact rfl), rfl⟩
          · rintro σ rfl
            have hs : IntKind.u64.wrap (((kM k : Nat) : Int) - (v : Int)) = (kM k : Int) - v := by rw [wrap_u64 (by omega)]
            (refine LWP.region (by kernel_rfl) <| kmv rfl <| kmv rfl <| K.sub rfl rfl hs .plain <| K.build rfl rfl (by exact rfl) (by exact nl3 rfl rfl rfl rfl) .plain ?_; refine K.storeAll rfl rfl rfl rfl rfl rfl .plain ?_; refine RunK.nil <| LWP.seq <| LWP.seq <| LWP.region (by kernel_rfl) <| kmv rfl <| keq rfl rfl (beq_eq_false_iff_ne.2 (by omega)) <| kmv rfl <| RunK.passed rfl rfl rfl <| RunK.passed rfl rfl rfl <| kpf rfl rfl <| RunK.nil <| LWP.condF rfl ?_; refine LWP.skip ?_; refine LWP.seq <| LWP.region (by kernel_rfl) <| K.loadAll rfl rfl rfl .plain ?_; refine K.storeAll rfl rfl rfl rfl rfl rfl .plain ?_; refine kas rfl <| RunK.nil <| LWP.ret ?_)
            exact ⟨[_, _], ⟨⟨_, _, rfl, rfl, rfl, .inl ⟨AggT.h, rfl⟩⟩, rfl, trivial⟩, rfl⟩
      · have hle : (v : Int) ≤ kA k := Int.not_lt.1 (mt (hsig ⟨h2, h5⟩).2 hbig)
        rw [getR_pos hle]
        (refine LWP.seq <| LWP.seq <| LWP.region (by kernel_rfl) <| kmv rfl <| K.geq rfl rfl (decide_eq_false (by omega)) .plain <| RunK.nil <| LWP.condF rfl ?_; refine LWP.exit <| LWP.seq <| LWP.region (by kernel_rfl) <| kmv rfl <| K.build rfl rfl (by exact rfl) (by exact nl3 rfl rfl rfl rfl) .plain ?_; refine K.alloc rfl .plain ?_; refine K.storeAll rfl rfl rfl rfl rfl rfl .plain ?_; refine RunK.nil <| LWP.seq <| LWP.seq <| LWP.region (by kernel_rfl) <| kmv rfl <| K.geq rfl rfl (decide_eq_true (by omega)) .plain <| kmv rfl <| gmv rfl rfl rfl <| K.leq rfl rfl (decide_eq_true (by omega)) (.taken rfl rfl) ?_; refine kpt rfl rfl <| kmv rfl <| gmv rfl rfl rfl <| gmv rfl rfl rfl <| K.lenStr rfl (.taken rfl rfl) ?_; refine K.sub rfl rfl hlen (.taken rfl rfl) ?_; refine K.indexStr rfl rfl (by omega) (str_at hc) (.taken rfl rfl) ?_; refine K.gtr rfl rfl (decide_eq_false (by omega)) (.taken rfl rfl) ?_; refine kpt rfl rfl <| RunK.nil <| LWP.condF rfl ?_; refine LWP.skip ?_; refine LWP.seq <| LWP.seq <| LWP.region (by kernel_rfl) <| kmv rfl <| keq rfl rfl (beq_eq_false_iff_ne.2 (by omega)) <| kmv rfl <| RunK.passed rfl rfl rfl <| RunK.passed rfl rfl rfl <| kpf rfl rfl <| RunK.nil <| LWP.condF rfl ?_; refine LWP.skip ?_; refine LWP.seq <| LWP.region (by kernel_rfl) <| K.loadAll rfl rfl rfl .plain ?_; refine K.storeAll rfl rfl rfl rfl rfl rfl .plain ?_; refine kas rfl <| RunK.nil <| LWP.ret ?_)
        exact ⟨[_, _], ⟨⟨_, _, rfl, rfl, rfl, .inl ⟨AggT.h, rfl⟩⟩, rfl, trivial⟩, rfl⟩
    · by_cases h1 : k = 1
      · subst h1
        have hA : kA 1 = 1 := by decide
        have hM1 : kM 1 = 256 := by decide
        by_cases hv : 1 < v
        · rw [getR_bool hv (by omega)]
          (refine LWP.seq <| LWP.seq <| LWP.region (by kernel_rfl) <| kmv rfl <| K.geq rfl rfl (decide_eq_false (by omega)) .plain <| RunK.nil <| LWP.condF rfl ?_; refine LWP.exit <| LWP.seq <| LWP.region (by kernel_rfl) <| kmv rfl <| K.build rfl rfl (by exact rfl) (by exact nl3 rfl rfl rfl rfl) .plain ?_; refine K.alloc rfl .plain ?_; refine K.storeAll rfl rfl rfl rfl rfl rfl .plain ?_; refine RunK.nil <| LWP.seq <| LWP.seq <| LWP.region (by kernel_rfl) <| kmv rfl <| K.geq rfl rfl (decide_eq_false (by omega)) .plain <| kmv rfl <| RunK.passed rfl rfl rfl <| RunK.passed rfl rfl rfl <| kpf rfl rfl <| kmv rfl <| RunK.passed rfl rfl rfl <| RunK.passed rfl rfl rfl <| RunK.passed rfl rfl rfl ?_; refine RunK.passed rfl rfl rfl <| RunK.passed rfl rfl rfl <| RunK.passed rfl rfl rfl <| kpf rfl rfl <| RunK.nil <| LWP.condF rfl ?_; refine LWP.skip ?_; refine LWP.seq <| LWP.seq <| LWP.region (by kernel_rfl) <| kmv rfl <| keq rfl rfl (beq_iff_eq.2 (by omega)) <| kmv rfl <| gmv rfl rfl rfl <| K.gtr rfl rfl (decide_eq_true (by omega)) (.taken rfl rfl) ?_; refine kpt rfl rfl <| RunK.nil <| LWP.condT rfl ?_; refine LWP.seq <| LWP.region (by kernel_rfl) <| K.build rfl rfl (by exact rfl) (by exact nl3 rfl rfl rfl rfl) .plain ?_; refine K.storeAll rfl rfl rfl rfl rfl rfl .plain ?_; refine kas rfl <| RunK.nil <| LWP.ret ?_)
          exact ⟨[_, _], ⟨⟨_, _, rfl, rfl, rfl, .inl ⟨AggT.h, rfl⟩⟩, rfl, trivial⟩, rfl⟩
        · rw [getR_pos (by omega)]
          (refine LWP.seq <| LWP.seq <| LWP.region (by kernel_rfl) <| kmv rfl <| K.geq rfl rfl (decide_eq_false (by omega)) .plain <| RunK.nil <| LWP.condF rfl ?_; refine LWP.exit <| LWP.seq <| LWP.region (by kernel_rfl) <| kmv rfl <| K.build rfl rfl (by exact rfl) (by exact nl3 rfl rfl rfl rfl) .plain ?_; refine K.alloc rfl .plain ?_; refine K.storeAll rfl rfl rfl rfl rfl rfl .plain ?_; refine RunK.nil <| LWP.seq <| LWP.seq <| LWP.region (by kernel_rfl) <| kmv rfl <| K.geq rfl rfl (decide_eq_false (by omega)) .plain <| kmv rfl <| RunK.passed rfl rfl rfl <| RunK.passed rfl rfl rfl <| kpf rfl rfl <| kmv rfl <| RunK.passed rfl rfl rfl <| RunK.passed rfl rfl rfl <| RunK.passed rfl rfl rfl ?_; refine RunK.passed rfl rfl rfl <| RunK.passed rfl rfl rfl <| RunK.passed rfl rfl rfl <| kpf rfl rfl <| RunK.nil <| LWP.condF rfl ?_; refine LWP.skip ?_; refine LWP.seq <| LWP.seq <| LWP.region (by kernel_rfl) <| kmv rfl <| keq rfl rfl (beq_iff_eq.2 (by omega)) <| kmv rfl <| gmv rfl rfl rfl <| K.gtr rfl rfl (decide_eq_false (by omega)) (.taken rfl rfl) ?_; refine kpt rfl rfl <| RunK.nil <| LWP.condF rfl ?_; refine LWP.skip ?_; refine LWP.seq <| LWP.region (by kernel_rfl) <| K.loadAll rfl rfl rfl .plain ?_; refine K.storeAll rfl rfl rfl rfl rfl rfl .plain ?_; refine kas rfl <| RunK.nil <| LWP.ret ?_)
          exact ⟨[_, _], ⟨⟨_, _, rfl, rfl, rfl, .inl ⟨AggT.h, rfl⟩⟩, rfl, trivial⟩, rfl⟩
      · have h6 : 6 ≤ k := by omega
        have hu := kM_uns ⟨h6, hkk.2⟩
        rw [getR_pos (by omega)]
        (refine LWP.seq <| LWP.seq <| LWP.region (by kernel_rfl) <| kmv rfl <| K.geq rfl rfl (decide_eq_false (by omega)) .plain <| RunK.nil <| LWP.condF rfl ?_; refine LWP.exit <| LWP.seq <| LWP.region (by kernel_rfl) <| kmv rfl <| K.build rfl rfl (by exact rfl) (by exact nl3 rfl rfl rfl rfl) .plain ?_; refine K.alloc rfl .plain ?_; refine K.storeAll rfl rfl rfl rfl rfl rfl .plain ?_; refine RunK.nil <| LWP.seq <| LWP.seq <| LWP.region (by kernel_rfl) <| kmv rfl <| K.geq rfl rfl (decide_eq_true (by omega)) .plain <| kmv rfl <| gmv rfl rfl rfl <| K.leq rfl rfl (decide_eq_false (by omega)) (.taken rfl rfl) ?_; refine kpt rfl rfl <| kmv rfl <| RunK.passed rfl rfl rfl <| RunK.passed rfl rfl rfl <| RunK.passed rfl rfl rfl <| RunK.passed rfl rfl rfl <| RunK.passed rfl rfl rfl <| RunK.passed rfl rfl rfl <| kpf rfl rfl <| RunK.nil <| LWP.condF rfl ?_; refine LWP.skip ?_; refine LWP.seq <| LWP.seq <| LWP.region (by kernel_rfl) <| kmv rfl <| keq rfl rfl (beq_eq_false_iff_ne.2 (by omega)) <| kmv rfl <| RunK.passed rfl rfl rfl <| RunK.passed rfl rfl rfl <| kpf rfl rfl <| RunK.nil <| LWP.condF rfl ?_; refine LWP.skip ?_; refine LWP.seq <| LWP.region (by kernel_rfl) <| K.loadAll rfl rfl rfl .plain ?_; refine K.storeAll rfl rfl rfl rfl rfl rfl .plain ?_; refine kas rfl <| RunK.nil <| LWP.ret ?_)
        exact ⟨[_, _], ⟨⟨_, _, rfl, rfl, rfl, .inl ⟨AggT.h, rfl⟩⟩, rfl, trivial⟩, rfl⟩
end Go.Proofs.Ytfmohdliifmmfaa
