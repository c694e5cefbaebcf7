/- A piece of a proof over this program: contracts of its functions, and a logic to prove them by. -/
import Derived.Test.YtdlilapjijpghaaP3
section
-- the reference's column
namespace Go.Proofs.Ytdlilapjijpghaa
open Go Go.Lg Go.Lg.Col
set_option maxRecDepth 100000
variable (X : Nat → Option Obj)
theorem uChunks_spec (size cap : Int) (ad : Option Addr) (n cp : Nat) (hn : n < 4611686018427387904) : MSpec Try.prog X 22 [Lp 1000000] [uB 1000000 size cap (uC ad n cp)] (Ln .i64 ((n + 15) / 16 : Nat)) [uB 1000000 size cap (uC ad n cp)] := by
  refine MSpec.intro Try.func22 rfl (by kernel_rfl) rfl rfl (by exact (by repeat' (first | refine all_cons_true ?_ ?_ | rfl | exact bytes_inUse | exact vals_inUse | exact mid_inUse rfl))) rfl rfl ?_
  intro C
  have ha : IntKind.i64.wrap ((n : Int) + 15) = ((n + 15 : Nat) : Int) := by rw [wrap_i64 (by omega)]; omega
  have hq : IntKind.i64.wrap ((((n + 15 : Nat) : Int)).tdiv 16) = (((n + 15) / 16 : Nat) : Int) := by
    rw [Int.tdiv_eq_ediv_of_nonneg (by omega), wrap_i64 (by omega)]; omega
  (refine LWP.seq <| LWP.region (by kernel_rfl) <| kas rfl <| RunK.nil <| LWP.seq <| LWP.region (by kernel_rfl) <| kmv rfl <| K.nilCheck rfl .plain <| kfa rfl rfl ?_; refine kl1 rfl rfl rfl <| K.lenX rfl SliceT.h rfl .plain ?_; refine kad rfl rfl ha <| K.quo rfl rfl (by omega) hq .plain <| kas rfl <| RunK.nil <| LWP.ret ?_)
  exact ⟨[], ⟨[_], ⟨rfl, trivial⟩, rfl⟩, (by repeat' (first | exact trivial | refine And.intro ⟨_, rfl, ?_⟩ ?_ | refine And.intro ⟨_, rfl⟩ ?_ | rfl | exact Box.ren_bytes _ _ _ _ | exact Box.ren_vals _ _ _ _ | exact Box.ren_mid rfl)), rfl, rfl⟩
theorem uAppend_form (size cap : Int) (ad : Option Addr) (n cp : Nat) (row : List UInt8) (h : (row.length : Int) ≠ size) : MSpec Try.prog X 18 [Lp 1000000, Ls row] [uB 1000000 size cap (uC ad n cp)] (Ln .i64 4) [uB 1000000 size cap (uC ad n cp)] := by
  refine MSpec.intro Try.func18 rfl (by kernel_rfl) rfl rfl (by exact (by repeat' (first | refine all_cons_true ?_ ?_ | rfl | exact bytes_inUse | exact vals_inUse | exact mid_inUse rfl))) rfl rfl ?_
  intro C
  (refine LWP.seq <| LWP.region (by kernel_rfl) <| kas rfl <| RunK.nil <| LWP.seq <| LWP.seq <| LWP.region (by kernel_rfl) <| kmv rfl <| kln rfl <| kmv rfl <| K.nilCheck rfl .plain <| kfa rfl rfl ?_; refine kl1 rfl rfl rfl <| kne rfl rfl (r := true) (by rw [bne_iff_ne]; exact h) <| RunK.nil <| LWP.condT rfl ?_; refine LWP.seq <| LWP.region (by kernel_rfl) <| kas rfl <| RunK.nil <| LWP.ret ?_)
  exact ⟨[], ⟨[_], ⟨rfl, trivial⟩, rfl⟩, (by repeat' (first | exact trivial | refine And.intro ⟨_, rfl, ?_⟩ ?_ | refine And.intro ⟨_, rfl⟩ ?_ | rfl | exact Box.ren_bytes _ _ _ _ | exact Box.ren_vals _ _ _ _ | exact Box.ren_mid rfl)), rfl, rfl⟩
theorem uAppend_full (size cap : Int) (ad : Option Addr) (n cp : Nat) (row : List UInt8) (h : (row.length : Int) = size) (hf : cap ≤ n) : MSpec Try.prog X 18 [Lp 1000000, Ls row] [uB 1000000 size cap (uC ad n cp)] (Ln .i64 5) [uB 1000000 size cap (uC ad n cp)] := by
  refine MSpec.intro Try.func18 rfl (by kernel_rfl) rfl rfl (by exact (by repeat' (first | refine all_cons_true ?_ ?_ | rfl | exact bytes_inUse | exact vals_inUse | exact mid_inUse rfl))) rfl rfl ?_
  intro C
  (refine LWP.seq <| LWP.region (by kernel_rfl) <| kas rfl <| RunK.nil <| LWP.seq <| LWP.seq <| LWP.region (by kernel_rfl) <| kmv rfl <| kln rfl <| kmv rfl <| K.nilCheck rfl .plain <| kfa rfl rfl ?_; refine kl1 rfl rfl rfl <| kne rfl rfl (r := false) (by rw [bne_eq_false_iff_eq]; exact h) <| RunK.nil <| LWP.condF rfl ?_; refine LWP.skip ?_; refine LWP.seq <| LWP.seq <| LWP.draws mixed (by kernel_rfl) <| kmv rfl <| K.nilCheck rfl .plain <| kfa rfl rfl ?_; refine kl1 rfl rfl rfl <| K.lenX rfl SliceT.h rfl .plain ?_; refine kmv rfl <| K.nilCheck rfl .plain <| kfa rfl rfl ?_; refine kl1 rfl rfl rfl <| K.geq rfl rfl (decide_eq_true (by omega)) .plain <| RunK.nil <| And.intro (by kernel_rfl) ?_; refine LWP.condT rfl ?_; refine LWP.seq <| LWP.region (by kernel_rfl) <| kas rfl <| RunK.nil <| LWP.ret ?_)
  exact ⟨[], ⟨[_], ⟨rfl, trivial⟩, rfl⟩, (by repeat' (first | exact trivial | refine And.intro ⟨_, rfl, ?_⟩ ?_ | refine And.intro ⟨_, rfl⟩ ?_ | rfl | exact Box.ren_bytes _ _ _ _ | exact Box.ren_vals _ _ _ _ | exact Box.ren_mid rfl)), rfl, rfl⟩
set_option maxHeartbeats 3200000 in
theorem uAppend_ok (size cap : Int) (ad : Option Addr) (cp : Nat) (L : List (List UInt8)) (row : List UInt8) (hin : OneIn X ad (txV L)) (h : (row.length : Int) = size) (hf : L.length < cap) (hb : L.length < 4294967296) :
    MSpec Try.prog X 18 [Lp 1000000, Ls row] [uB 1000000 size cap (uC ad L.length cp)] (Ln .i64 0) [uB 1000000 size cap (.slc 1000001 0 (L.length + 1)), (1000001, some ⟨9, (txV (L ++ [row])).map .val, true⟩)] := by
  refine MSpec.intro Try.func18 rfl (by kernel_rfl) rfl rfl (by exact (by repeat' (first | refine all_cons_true ?_ ?_ | rfl | exact bytes_inUse | exact vals_inUse | exact mid_inUse rfl))) rfl rfl ?_
  intro C
  have hl : (txV L).length = L.length * 1 := by rw [txV_len]; omega
  have hcl : ((txV L).map CV.val).length = L.length * 1 := by rw [List.length_map, hl]
  have hnc : (txV L).map CV.val ++ [vs row] = (txV (L ++ [row])).map .val := by simp [txV, strV, vs]
  (refine LWP.seq <| LWP.region (by kernel_rfl) <| kas rfl <| RunK.nil <| LWP.seq <| LWP.seq <| LWP.region (by kernel_rfl) <| kmv rfl <| kln rfl <| kmv rfl <| K.nilCheck rfl .plain <| kfa rfl rfl ?_; refine kl1 rfl rfl rfl <| kne rfl rfl (r := false) (by rw [bne_eq_false_iff_eq]; exact h) <| RunK.nil <| LWP.condF rfl ?_; refine LWP.skip ?_; refine LWP.seq <| LWP.seq <| LWP.draws mixed (by kernel_rfl) <| kmv rfl <| K.nilCheck rfl .plain <| kfa rfl rfl ?_; refine kl1 rfl rfl rfl <| K.lenX rfl SliceT.h rfl .plain ?_; refine kmv rfl <| K.nilCheck rfl .plain <| kfa rfl rfl ?_; refine kl1 rfl rfl rfl <| K.geq rfl rfl (decide_eq_false (by omega)) .plain <| RunK.nil <| And.intro (by kernel_rfl) ?_; refine LWP.condF rfl ?_; refine LWP.skip ?_; refine LWP.seq ?_)
  cases ad with
  | none =>
    have hL : L = [] := by
      cases L with
      | nil => rfl
      | cons a t => obtain ⟨_, _, _, _, _, h1, _⟩ := hin 0 _ rfl; cases h1
    subst hL
    (refine LWP.region (by kernel_rfl) <| kmv rfl <| K.buildSlc (zs := []) (sz := 1) (e := 9) (by kernel_rfl) rfl rfl rfl rfl rfl rfl .plain <| kmv rfl <| K.nilCheck rfl .plain <| kfa rfl rfl ?_; refine kl1 rfl rfl rfl <| K.appendX0 (by_ := 16) (e2 := 9) rfl rfl rfl rfl (by kernel_rfl) (by kernel_rfl) (by decide) (by decide) rfl rfl rfl .plain ?_; refine kmv rfl <| K.buildSlc (zs := [.string ⟨#[]⟩]) (sz := 1) (e := 9) (by kernel_rfl) rfl rfl rfl rfl rfl rfl .plain <| K.appendSlc (by_ := 16) (e2 := 9) (l2 := [vs row]) rfl rfl rfl rfl rfl (Nat.le_refl _) rfl rfl (by kernel_rfl) (by kernel_rfl) (by decide) (by decide) rfl rfl rfl .plain <| K.nilCheck rfl .plain <| kfa rfl rfl ?_; refine K.storeOne rfl rfl rfl rfl rfl (nl3 rfl rfl rfl rfl) .plain <| RunK.nil <| LWP.seq <| LWP.region (by kernel_rfl) <| kas rfl <| RunK.nil <| LWP.ret ?_)
    exact ⟨[(1000001, 31)], ⟨[_], ⟨rfl, trivial⟩, rfl⟩, (by repeat' (first | exact trivial | refine And.intro ⟨_, rfl, ?_⟩ ?_ | refine And.intro ⟨_, rfl⟩ ?_ | rfl | exact Box.ren_bytes _ _ _ _ | exact Box.ren_vals _ _ _ _ | exact Box.ren_mid rfl)), rfl, rfl⟩
  | some a0 =>
    (refine LWP.region (by kernel_rfl) <| kmv rfl <| K.buildSlc (zs := []) (sz := 1) (e := 9) (by kernel_rfl) rfl rfl rfl rfl rfl rfl .plain <| kmv rfl <| K.nilCheck rfl .plain <| kfa rfl rfl ?_; refine kl1 rfl rfl rfl <| K.appendX (by_ := 16) (e2 := 9) (nl := L.length) (nc := (txV L).map .val) rfl rfl rfl rfl ⟨hin⟩ hl txV_one (by kernel_rfl) (by kernel_rfl) (by omega) (by omega) rfl (Nat.zero_add _) rfl .plain ?_; refine kmv rfl <| K.buildSlc (zs := [.string ⟨#[]⟩]) (sz := 1) (e := 9) (by kernel_rfl) rfl rfl rfl rfl rfl rfl .plain <| K.appendSlc (by_ := 16) (e2 := 9) (l2 := [vs row]) rfl rfl hcl rfl rfl (Nat.le_refl _) rfl rfl (by kernel_rfl) (by kernel_rfl) (by omega) (by omega) rfl rfl hnc .plain <| K.nilCheck rfl .plain <| kfa rfl rfl ?_; refine K.storeOne rfl rfl rfl rfl rfl (nl3 rfl rfl rfl rfl) .plain <| RunK.nil <| LWP.seq <| LWP.region (by kernel_rfl) <| kas rfl <| RunK.nil <| LWP.ret ?_)
    exact ⟨[(1000001, 31)], ⟨[_], ⟨rfl, trivial⟩, rfl⟩, (by repeat' (first | exact trivial | refine And.intro ⟨_, rfl, ?_⟩ ?_ | refine And.intro ⟨_, rfl⟩ ?_ | rfl | exact Box.ren_bytes _ _ _ _ | exact Box.ren_vals _ _ _ _ | exact Box.ren_mid rfl)), rfl, rfl⟩
theorem uSet_range (size cap : Int) (ad : Option Addr) (n cp : Nat) (i : Int) (row : List UInt8) (h : i < 0 ∨ (n : Int) ≤ i) : MSpec Try.prog X 19 [Lp 1000000, Ln .i64 i, Ls row] [uB 1000000 size cap (uC ad n cp)] (Ln .i64 3) [uB 1000000 size cap (uC ad n cp)] := by
  refine MSpec.intro Try.func19 rfl (by kernel_rfl) rfl rfl (by exact (by repeat' (first | refine all_cons_true ?_ ?_ | rfl | exact bytes_inUse | exact vals_inUse | exact mid_inUse rfl))) rfl rfl ?_
  intro C
  by_cases h0 : i < 0
  · (refine LWP.seq <| LWP.region (by kernel_rfl) <| kas rfl <| RunK.nil <| LWP.seq <| LWP.seq <| LWP.region (by kernel_rfl) <| kmv rfl <| klt rfl rfl (decide_eq_true h0) <| kmv rfl <| RunK.passed rfl rfl rfl <| RunK.passed rfl rfl rfl <| RunK.passed rfl rfl rfl <| RunK.passed rfl rfl rfl ?_; refine RunK.passed rfl rfl rfl <| RunK.passed rfl rfl rfl <| RunK.passed rfl rfl rfl <| kpt rfl rfl <| RunK.nil <| LWP.condT rfl ?_; refine LWP.seq <| LWP.region (by kernel_rfl) <| kas rfl <| RunK.nil <| LWP.ret ?_)
    exact ⟨[], ⟨[_], ⟨rfl, trivial⟩, rfl⟩, (by repeat' (first | exact trivial | refine And.intro ⟨_, rfl, ?_⟩ ?_ | refine And.intro ⟨_, rfl⟩ ?_ | rfl | exact Box.ren_bytes _ _ _ _ | exact Box.ren_vals _ _ _ _ | exact Box.ren_mid rfl)), rfl, rfl⟩
  · have h1 : (n : Int) ≤ i := by omega
    (refine LWP.seq <| LWP.region (by kernel_rfl) <| kas rfl <| RunK.nil <| LWP.seq <| LWP.seq <| LWP.region (by kernel_rfl) <| kmv rfl <| klt rfl rfl (decide_eq_false h0) <| kmv rfl <| gmv rfl rfl rfl <| gmv rfl rfl rfl <| K.nilCheck rfl (.taken rfl rfl) ?_; refine K.fieldAddr rfl rfl (.taken rfl rfl) ?_; refine K.loadOne rfl rfl rfl (.taken rfl rfl) ?_; refine K.lenX rfl SliceT.h rfl (.taken rfl rfl) ?_; refine K.geq rfl rfl (decide_eq_true (by omega)) (.taken rfl rfl) ?_; refine kpf rfl rfl <| RunK.nil <| LWP.condT rfl ?_; refine LWP.seq <| LWP.region (by kernel_rfl) <| kas rfl <| RunK.nil <| LWP.ret ?_)
    exact ⟨[], ⟨[_], ⟨rfl, trivial⟩, rfl⟩, (by repeat' (first | exact trivial | refine And.intro ⟨_, rfl, ?_⟩ ?_ | refine And.intro ⟨_, rfl⟩ ?_ | rfl | exact Box.ren_bytes _ _ _ _ | exact Box.ren_vals _ _ _ _ | exact Box.ren_mid rfl)), rfl, rfl⟩
theorem uSet_form (size cap : Int) (ad : Option Addr) (n cp : Nat) (i : Nat) (row : List UInt8) (h : i < n) (hs : (row.length : Int) ≠ size) : MSpec Try.prog X 19 [Lp 1000000, Ln .i64 (i : Nat), Ls row] [uB 1000000 size cap (uC ad n cp)] (Ln .i64 4) [uB 1000000 size cap (uC ad n cp)] := by
  refine MSpec.intro Try.func19 rfl (by kernel_rfl) rfl rfl (by exact (by repeat' (first | refine all_cons_true ?_ ?_ | rfl | exact bytes_inUse | exact vals_inUse | exact mid_inUse rfl))) rfl rfl ?_
  intro C
  (refine LWP.seq <| LWP.region (by kernel_rfl) <| kas rfl <| RunK.nil <| LWP.seq <| LWP.seq <| LWP.region (by kernel_rfl) <| kmv rfl <| klt rfl rfl (decide_eq_false (by omega)) <| kmv rfl <| gmv rfl rfl rfl <| gmv rfl rfl rfl <| K.nilCheck rfl (.taken rfl rfl) ?_; refine K.fieldAddr rfl rfl (.taken rfl rfl) ?_; refine K.loadOne rfl rfl rfl (.taken rfl rfl) ?_; refine K.lenX rfl SliceT.h rfl (.taken rfl rfl) ?_; refine K.geq rfl rfl (decide_eq_false (by omega)) (.taken rfl rfl) ?_; refine kpf rfl rfl <| RunK.nil <| LWP.condF rfl ?_; refine LWP.skip ?_; refine LWP.seq <| LWP.seq <| LWP.region (by kernel_rfl) <| kmv rfl <| kln rfl <| kmv rfl <| K.nilCheck rfl .plain <| kfa rfl rfl ?_; refine kl1 rfl rfl rfl <| kne rfl rfl (r := true) (by rw [bne_iff_ne]; exact hs) <| RunK.nil <| LWP.condT rfl ?_; refine LWP.seq <| LWP.region (by kernel_rfl) <| kas rfl <| RunK.nil <| LWP.ret ?_)
  exact ⟨[], ⟨[_], ⟨rfl, trivial⟩, rfl⟩, (by repeat' (first | exact trivial | refine And.intro ⟨_, rfl, ?_⟩ ?_ | refine And.intro ⟨_, rfl⟩ ?_ | rfl | exact Box.ren_bytes _ _ _ _ | exact Box.ren_vals _ _ _ _ | exact Box.ren_mid rfl)), rfl, rfl⟩
set_option maxHeartbeats 3200000 in
theorem uSet_ok (size cap : Int) (ad : Option Addr) (cp : Nat) (L : List (List UInt8)) (i : Nat) (row : List UInt8) (hin : OneIn X ad (txV L)) (hi : i < L.length) (hs : (row.length : Int) = size) (hb : L.length < 4294967296) :
    MSpec Try.prog X 19 [Lp 1000000, Ln .i64 (i : Nat), Ls row] [uB 1000000 size cap (uC ad L.length cp)] (Ln .i64 0) [uB 1000000 size cap (.slc 1000001 0 L.length), (1000001, some ⟨9, (txV (L.set i row)).map .val, true⟩)] := by
  refine MSpec.intro Try.func19 rfl (by kernel_rfl) rfl rfl (by exact (by repeat' (first | refine all_cons_true ?_ ?_ | rfl | exact bytes_inUse | exact vals_inUse | exact mid_inUse rfl))) rfl rfl ?_
  intro C
  have hl : (txV L).length = L.length * 1 := by rw [txV_len]; omega
  have hii : 0 + Int.toNat (i : Int) * 1 = i := by simp
  have hlt : Nat.blt i ((txV L).map CV.val).length = true := by rw [List.length_map, txV_len]; rw [Nat.blt_eq]; exact hi
  cases ad with
  | none =>
    obtain ⟨a, ha⟩ : ∃ a, L[i]? = some a := ⟨_, List.getElem?_eq_getElem hi⟩
    obtain ⟨_, _, _, _, _, h1, _⟩ := hin i _ (txV_at ha); cases h1
  | some a0 =>
    (refine LWP.seq <| LWP.region (by kernel_rfl) <| kas rfl <| RunK.nil <| LWP.seq <| LWP.seq <| LWP.region (by kernel_rfl) <| kmv rfl <| klt rfl rfl (decide_eq_false (by omega)) <| kmv rfl <| gmv rfl rfl rfl <| gmv rfl rfl rfl <| K.nilCheck rfl (.taken rfl rfl) ?_; refine K.fieldAddr rfl rfl (.taken rfl rfl) ?_; refine K.loadOne rfl rfl rfl (.taken rfl rfl) ?_; refine K.lenX rfl SliceT.h rfl (.taken rfl rfl) ?_; refine K.geq rfl rfl (decide_eq_false (by omega)) (.taken rfl rfl) ?_; refine kpf rfl rfl <| RunK.nil <| LWP.condF rfl ?_; refine LWP.skip ?_; refine LWP.seq <| LWP.seq <| LWP.region (by kernel_rfl) <| kmv rfl <| kln rfl <| kmv rfl <| K.nilCheck rfl .plain <| kfa rfl rfl ?_; refine kl1 rfl rfl rfl <| kne rfl rfl (r := false) (by rw [bne_eq_false_iff_eq]; exact hs) <| RunK.nil <| LWP.condF rfl ?_; refine LWP.skip ?_; refine LWP.seq <| LWP.region (by kernel_rfl) <| kmv rfl <| K.buildSlc (zs := []) (sz := 1) (e := 9) (by kernel_rfl) rfl rfl rfl rfl rfl rfl .plain <| kmv rfl <| K.nilCheck rfl .plain <| kfa rfl rfl ?_; refine kl1 rfl rfl rfl <| K.appendX (by_ := 16) (e2 := 9) (nl := L.length) (nc := (txV L).map .val) rfl rfl rfl rfl ⟨hin⟩ hl txV_one (by kernel_rfl) (by kernel_rfl) (by omega) (by omega) rfl (Nat.zero_add _) rfl .plain ?_; refine K.nilCheck rfl .plain <| kfa rfl rfl ?_; refine K.storeOne rfl rfl rfl rfl rfl (nl3 rfl rfl rfl rfl) .plain <| RunK.nil <| LWP.seq <| LWP.region (by kernel_rfl) <| kmv rfl <| K.nilCheck rfl .plain <| kfa rfl rfl ?_; refine kl1 rfl rfl rfl <| kmv rfl <| kmv rfl <| K.indexSlc rfl rfl (by omega) hii .plain ?_; refine K.storeOne rfl rfl rfl rfl hlt (txC_set i row) .plain <| RunK.nil <| LWP.seq <| LWP.region (by kernel_rfl) <| kas rfl <| RunK.nil <| LWP.ret ?_)
    exact ⟨[(1000001, 31)], ⟨[_], ⟨rfl, trivial⟩, rfl⟩, (by repeat' (first | exact trivial | refine And.intro ⟨_, rfl, ?_⟩ ?_ | refine And.intro ⟨_, rfl⟩ ?_ | rfl | exact Box.ren_bytes _ _ _ _ | exact Box.ren_vals _ _ _ _ | exact Box.ren_mid rfl)), rfl, rfl⟩
theorem uSwap_range (size cap : Int) (ad : Option Addr) (n cp : Nat) (i : Int) (h : i < 0 ∨ (n : Int) ≤ i) : MSpec Try.prog X 20 [Lp 1000000, Ln .i64 i] [uB 1000000 size cap (uC ad n cp)] (.tup [Sn .i64 0, Sn .i64 3]) [uB 1000000 size cap (uC ad n cp)] := by
  refine MSpec.intro Try.func20 rfl (by kernel_rfl) rfl rfl (by exact (by repeat' (first | refine all_cons_true ?_ ?_ | rfl | exact bytes_inUse | exact vals_inUse | exact mid_inUse rfl))) rfl rfl ?_
  intro C
  by_cases h0 : i < 0
  · (refine LWP.seq <| LWP.region (by kernel_rfl) <| kas rfl <| kas rfl <| RunK.nil <| LWP.seq <| LWP.seq <| LWP.region (by kernel_rfl) <| kmv rfl <| klt rfl rfl (decide_eq_true h0) <| kmv rfl <| RunK.passed rfl rfl rfl <| RunK.passed rfl rfl rfl <| RunK.passed rfl rfl rfl ?_; refine RunK.passed rfl rfl rfl <| RunK.passed rfl rfl rfl <| RunK.passed rfl rfl rfl <| RunK.passed rfl rfl rfl <| kpt rfl rfl <| RunK.nil <| LWP.condT rfl ?_; refine LWP.seq <| LWP.region (by kernel_rfl) <| kas rfl <| kas rfl <| RunK.nil <| LWP.ret ?_)
    exact ⟨[], ⟨[_, _], ⟨rfl, rfl, trivial⟩, rfl⟩, (by repeat' (first | exact trivial | refine And.intro ⟨_, rfl, ?_⟩ ?_ | refine And.intro ⟨_, rfl⟩ ?_ | rfl | exact Box.ren_bytes _ _ _ _ | exact Box.ren_vals _ _ _ _ | exact Box.ren_mid rfl)), rfl, rfl⟩
  · have h1 : (n : Int) ≤ i := by omega
    (refine LWP.seq <| LWP.region (by kernel_rfl) <| kas rfl <| kas rfl <| RunK.nil <| LWP.seq <| LWP.seq <| LWP.region (by kernel_rfl) <| kmv rfl <| klt rfl rfl (decide_eq_false h0) <| kmv rfl <| gmv rfl rfl rfl <| gmv rfl rfl rfl <| K.nilCheck rfl (.taken rfl rfl) ?_; refine K.fieldAddr rfl rfl (.taken rfl rfl) ?_; refine K.loadOne rfl rfl rfl (.taken rfl rfl) ?_; refine K.lenX rfl SliceT.h rfl (.taken rfl rfl) ?_; refine K.geq rfl rfl (decide_eq_true (by omega)) (.taken rfl rfl) ?_; refine kpf rfl rfl <| RunK.nil <| LWP.condT rfl ?_; refine LWP.seq <| LWP.region (by kernel_rfl) <| kas rfl <| kas rfl <| RunK.nil <| LWP.ret ?_)
    exact ⟨[], ⟨[_, _], ⟨rfl, rfl, trivial⟩, rfl⟩, (by repeat' (first | exact trivial | refine And.intro ⟨_, rfl, ?_⟩ ?_ | refine And.intro ⟨_, rfl⟩ ?_ | rfl | exact Box.ren_bytes _ _ _ _ | exact Box.ren_vals _ _ _ _ | exact Box.ren_mid rfl)), rfl, rfl⟩
set_option maxHeartbeats 3200000 in
theorem uSwap_ok (size cap : Int) (ad : Option Addr) (cp : Nat) (L : List (List UInt8)) (i : Nat) (l : List UInt8) (hin : OneIn X ad (txV L)) (hi : i < L.length) (hl : L[L.length - 1]? = some l) (hb : L.length < 4294967296) :
    MSpec Try.prog X 20 [Lp 1000000, Ln .i64 (i : Nat)] [uB 1000000 size cap (uC ad L.length cp)] (.tup [Sn .i64 (L.length - 1 : Nat), Sn .i64 0]) [uB 1000000 size cap (.slc 1000001 0 (L.length - 1)), (1000001, some ⟨9, (txV (L.set i l)).map .val, true⟩)] := by
  refine MSpec.intro Try.func20 rfl (by kernel_rfl) rfl rfl (by exact (by repeat' (first | refine all_cons_true ?_ ?_ | rfl | exact bytes_inUse | exact vals_inUse | exact mid_inUse rfl))) rfl rfl ?_
  intro C
  have hll : (txV L).length = L.length * 1 := by rw [txV_len]; omega
  have hii : 0 + Int.toNat (i : Int) * 1 = i := by simp
  have hjj : 0 + Int.toNat ((L.length - 1 : Nat) : Int) * 1 = L.length - 1 := by simp
  have hlt : Nat.blt i ((txV L).map CV.val).length = true := by rw [List.length_map, txV_len]; rw [Nat.blt_eq]; exact hi
  have hs : IntKind.i64.wrap ((L.length : Int) - 1) = ((L.length - 1 : Nat) : Int) := by rw [wrap_i64 (by omega)]; omega
  cases ad with
  | none => obtain ⟨_, _, _, _, _, h1, _⟩ := hin (L.length - 1) _ (txV_at hl); cases h1
  | some a0 =>
    (refine LWP.seq <| LWP.region (by kernel_rfl) <| kas rfl <| kas rfl <| RunK.nil <| LWP.seq <| LWP.seq <| LWP.region (by kernel_rfl) <| kmv rfl <| klt rfl rfl (decide_eq_false (by omega)) <| kmv rfl <| gmv rfl rfl rfl <| gmv rfl rfl rfl <| K.nilCheck rfl (.taken rfl rfl) ?_; refine K.fieldAddr rfl rfl (.taken rfl rfl) ?_; refine K.loadOne rfl rfl rfl (.taken rfl rfl) ?_; refine K.lenX rfl SliceT.h rfl (.taken rfl rfl) ?_; refine K.geq rfl rfl (decide_eq_false (by omega)) (.taken rfl rfl) ?_; refine kpf rfl rfl <| RunK.nil <| LWP.condF rfl ?_; refine LWP.skip ?_; refine LWP.seq <| LWP.region (by kernel_rfl) <| kmv rfl <| K.nilCheck rfl .plain <| kfa rfl rfl ?_; refine kl1 rfl rfl rfl <| K.lenX rfl SliceT.h rfl .plain ?_; refine K.sub rfl rfl hs .plain <| kas rfl <| RunK.nil <| LWP.seq <| LWP.region (by kernel_rfl) <| K.buildSlc (zs := []) (sz := 1) (e := 9) (by kernel_rfl) rfl rfl rfl rfl rfl rfl .plain <| kmv rfl <| K.nilCheck rfl .plain <| kfa rfl rfl ?_; refine kl1 rfl rfl rfl <| K.appendX (by_ := 16) (e2 := 9) (nl := L.length) (nc := (txV L).map .val) rfl rfl rfl rfl ⟨hin⟩ hll txV_one (by kernel_rfl) (by kernel_rfl) (by omega) (by omega) rfl (Nat.zero_add _) rfl .plain ?_; refine kas rfl <| RunK.nil <| LWP.seq <| LWP.region (by kernel_rfl) <| kmv rfl <| kmv rfl <| kmv rfl <| kmv rfl <| K.indexSlc rfl rfl (by omega) hjj .plain ?_; refine kl1 rfl rfl (txC_at hl) <| K.indexSlc rfl rfl (by omega) hii .plain ?_; refine K.storeOne rfl rfl rfl rfl hlt (txC_set i l) .plain <| RunK.nil <| LWP.seq <| LWP.region (by kernel_rfl) <| kmv rfl <| kmv rfl <| kmv rfl <| K.cutSlc (h := L.length - 1) rfl rfl (by kernel_rfl) (by omega) .plain <| K.nilCheck rfl .plain <| kfa rfl rfl ?_; refine K.storeOne rfl rfl rfl rfl rfl (nl3 rfl rfl rfl rfl) .plain <| RunK.nil <| LWP.seq <| LWP.region (by kernel_rfl) <| kmv rfl <| kas rfl <| kas rfl <| RunK.nil <| LWP.ret ?_)
    exact ⟨[(1000001, 30)], ⟨[_, _], ⟨rfl, rfl, trivial⟩, rfl⟩, (by repeat' (first | exact trivial | refine And.intro ⟨_, rfl, ?_⟩ ?_ | refine And.intro ⟨_, rfl⟩ ?_ | rfl | exact Box.ren_bytes _ _ _ _ | exact Box.ren_vals _ _ _ _ | exact Box.ren_mid rfl)), rfl, rfl⟩
end Go.Proofs.Ytdlilapjijpghaa
end
section
namespace Go.Lg
open Go Go.RowKit
section
variable {P : Program} {n : Nat} {C : Ctx} {c : Code} {Q : Exit → St → Prop} {X : Nat → Option Obj} {s : List (Nat × LV)} {bx : List (Nat × Option Box)}
/-- memory that was frozen is a box again, by a new name -/
theorem Rel.thawName {ι : Nat → Nat × Nat} {a : Act} {w : World} {k blk : Nat} {el : TypeId} {vals : List Value} {arr : Array Value} {fr : Nat × Nat}
    (hX : X blk = none) (hF : Frozen C blk arr fr) (hsp : ∃ sp, arr.toList = vals ++ sp)
    (hs : s.all (fun p => p.2.inUse bx) = true) (hb : bx.all (fun p => match p.2 with | some b => b.cells.all (CV.inUse bx) | none => true) = true) (hk : look k bx = none) (hlt : k < 1000000)
    (hr : Rel n C ι ⟨s, bx, withBlock X blk (.cells arr el fr)⟩ a w) :
    Rel n C (put1 ι k (blk, arr.size)) ⟨s, (k, some ⟨el, vals.map .val, true⟩) :: bx, X⟩ a w := by
  have hlk : ∀ k' x, look k' bx = some x → k' ≠ k := fun k' x h' e => by rw [e, hk] at h'; cases h'
  have hι : ∀ k', k' ≠ k → put1 ι k (blk, arr.size) k' = ι k' := fun k' e => by unfold put1; rw [if_neg e]
  have hιk : put1 ι k (blk, arr.size) k = (blk, arr.size) := by unfold put1; rw [if_pos rfl]
  have hst : ∀ k' b, (⟨s, (k, some ⟨el, vals.map .val, true⟩) :: bx, X⟩ : St).stat k' = some (some b) → (k' = k ∧ b = ⟨el, vals.map .val, true⟩) ∨ (k' ≠ k ∧ look k' bx = some (some b)) := fun k' b h' => by
    rw [stat_hd] at h'
    by_cases e : k' = k
    · rw [if_pos e] at h'
      simp only [Option.some.injEq] at h'
      exact .inl ⟨e, h'.symm⟩
    · rw [if_neg e] at h'; exact .inr ⟨e, h'⟩
  have hon : SameOn bx (⟨s, bx, withBlock X blk (.cells arr el fr)⟩ : St).stat (⟨s, (k, some ⟨el, vals.map .val, true⟩) :: bx, X⟩ : St).stat := fun k' x h' => by
    rw [stat_hd, if_neg (hlk k' x h')]; rfl
  have hmean : ∀ {b : Box} {us : List Value}, b.rel (⟨s, (k, some ⟨el, vals.map .val, true⟩) :: bx, X⟩ : St).stat ι us → b.cells.all (CV.inUse bx) = true → b.rel (⟨s, (k, some ⟨el, vals.map .val, true⟩) :: bx, X⟩ : St).stat (put1 ι k (blk, arr.size)) us := fun {b us} h1 h2 => by
    unfold Box.rel at h1 ⊢
    cases hrow : b.row with
    | res R => rw [hrow] at h1; exact h1.elim
    | bool r =>
      cases r with
      | false => rw [hrow] at h1; exact CVs.rel_means (fun k' hk' => hι k' (by obtain ⟨x, hx⟩ := Option.isSome_iff_exists.1 hk'; exact hlk k' x hx)) h2 h1
      | true =>
        rw [hrow] at h1
        obtain ⟨us', sp, e, hl⟩ := h1
        exact ⟨us', sp, e, CVs.rel_means (fun k' hk' => hι k' (by obtain ⟨x, hx⟩ := Option.isSome_iff_exists.1 hk'; exact hlk k' x hx)) h2 hl⟩
  exact {
    defers := hr.defers, size := hr.size
    slots := fun d' lv hd => by
      obtain ⟨v', hv', hr'⟩ := hr.slots d' lv hd
      have hu := List.all_eq_true.1 hs _ (look_mem hd)
      exact ⟨v', hv', LV.rel_means (fun k' hk' => hι k' (by obtain ⟨x, hx⟩ := Option.isSome_iff_exists.1 hk'; exact hlk k' x hx)) hu (LV.rel_on hon hu hr')⟩
    res := by
      obtain ⟨F, hG⟩ := hr.res
      refine hG.keep (fun j e cs R hj => ?_) (fun _ _ _ _ _ hj => hj) (fun _ _ ho => ho) (fun b _ hx _ _ => ?_) (fun j bj hj => ?_)
      · rcases hst j _ hj with ⟨_, h2⟩ | ⟨hne, h2⟩
        · cases h2
        · exact ⟨h2, hι j hne⟩
      · have hx : withBlock X blk (.cells arr el fr) b = none := hx
        unfold withBlock at hx
        split at hx
        · cases hx
        · exact hx
      · rcases hst j bj hj with ⟨rfl, _⟩ | ⟨hne, h2⟩
        · rw [hιk]
          refine .inr (.inr (.inr ?_))
          show withBlock X blk (.cells arr el fr) blk ≠ none
          rw [withBlock_at]; simp
        · exact .inl ⟨bj, h2, by rw [hι j hne]⟩
    boxes := fun k' b hb' hbk => by
      rcases hst k' b hb' with ⟨rfl, rfl⟩ | ⟨hne, hb''⟩
      · rw [hιk]
        obtain ⟨sp, hsp⟩ := hsp
        exact ⟨arr, fr, hr.ext blk _ (withBlock_at _ _ _), hF.thaw, rfl, vals, sp, hsp, CVs.rel_map_val vals⟩
      · rw [hι k' hne]
        obtain ⟨arr', fr', h1, h2, h3, h4⟩ := hr.boxes k' b hb'' hbk
        have hu : b.cells.all (CV.inUse bx) = true := by simpa using List.all_eq_true.1 hb _ (look_mem hb'')
        exact ⟨arr', fr', h1, h2, h3, hmean (Box.rel_on hon hu h4) hu⟩
    own := fun k' b hb' => by
      rcases hst k' b hb' with ⟨rfl, rfl⟩ | ⟨hne, hb''⟩
      · rw [hιk]; exact ⟨hF.own, hX⟩
      · rw [hι k' hne]
        obtain ⟨h1, h2⟩ := hr.own k' b hb''
        refine ⟨h1, ?_⟩
        have h2 : withBlock X blk (.cells arr el fr) (ι k').1 = none := h2
        unfold withBlock at h2
        split at h2
        · cases h2
        · exact h2
    inj := fun k1 k2 b1 b2 h1 h2 he => by
      have hne : ∀ k' b, look k' bx = some (some b) → (ι k').1 ≠ blk := fun k' b hb' e => by
        have h2 : withBlock X blk (.cells arr el fr) (ι k').1 = none := (hr.own k' b hb').2
        rw [e, withBlock_at] at h2
        cases h2
      rcases hst k1 b1 h1 with ⟨e1, _⟩ | ⟨n1, h1'⟩ <;> rcases hst k2 b2 h2 with ⟨e2, _⟩ | ⟨n2, h2'⟩
      · rw [e1, e2]
      · rw [e1, hιk, hι k2 n2] at he; exact absurd he.symm (hne k2 b2 h2')
      · rw [e2, hιk, hι k1 n1] at he; exact absurd he (hne k1 b1 h1')
      · rw [hι k1 n1, hι k2 n2] at he; exact hr.inj k1 k2 b1 b2 h1' h2' he
    keep := fun k' b hb' hge => by
      rcases hst k' b hb' with ⟨e, _⟩ | ⟨hne, hb''⟩
      · omega
      · rw [hι k' hne]; exact hr.keep k' b hb'' hge
    ext := fun b o hbo => hr.ext b o (withBlock_old hX b o hbo)
    frame := hr.frame, big := hr.big, os := hr.os, tape := hr.tape, output := hr.output }
theorem rel_swap {S : Nat → Option (Option Box)} {ι : Nat → Nat × Nat} {c' : CV} {v : Value} (hc : c'.rel S ι v) : ∀ {A B : List CV} {vs : List Value}, CVs.rel S ι (A ++ .val v :: B) vs → CVs.rel S ι (A ++ c' :: B) vs
  | [], _, u :: _, h => ⟨by have := h.1; simp only [CV.rel] at this; rw [this]; exact hc, h.2⟩
  | [], _, [], h => h.elim
  | _ :: A, _, _ :: _, h => ⟨h.1, rel_swap hc (A := A) h.2⟩
  | _ :: _, _, [], h => h.elim
/-- a cell that is known by its value is known by its name -/
theorem Rel.recell {ι : Nat → Nat × Nat} {a : Act} {w : World} {j : Nat} {el2 : TypeId} {A B : List CV} {v : Value} {c' : CV} {row2 : Bool}
    (hc : c'.rel (⟨s, (j, some ⟨el2, A ++ c' :: B, row2⟩) :: bx, X⟩ : St).stat ι v)
    (hr : Rel n C ι ⟨s, (j, some ⟨el2, A ++ .val v :: B, row2⟩) :: bx, X⟩ a w) : Rel n C ι ⟨s, (j, some ⟨el2, A ++ c' :: B, row2⟩) :: bx, X⟩ a w := by
  have hlater := later_hd (s := s) (bx := bx) (k := j) ι ⟨el2, A ++ .val v :: B, row2⟩ ⟨el2, A ++ c' :: B, row2⟩ X X
  have live : ∀ i b, (⟨s, (j, some ⟨el2, A ++ c' :: B, row2⟩) :: bx, X⟩ : St).stat i = some (some b) → ∃ b0, (⟨s, (j, some ⟨el2, A ++ .val v :: B, row2⟩) :: bx, X⟩ : St).stat i = some (some b0) ∧ (i ≠ j → b = b0) := fun i b hi => by
    rw [stat_hd] at hi ⊢
    by_cases e : i = j
    · rw [if_pos e]; exact ⟨_, rfl, fun h => absurd e h⟩
    · rw [if_neg e] at hi ⊢; exact ⟨b, hi, fun _ => rfl⟩
  exact {
    defers := hr.defers, size := hr.size
    slots := fun d lv hd => by
      obtain ⟨v, hv, hvr⟩ := hr.slots d lv hd
      exact ⟨v, hv, LV.rel_later hlater hvr⟩
    boxes := fun i b hi hbk => by
      by_cases e : i = j
      · subst e
        rw [stat_hd, if_pos rfl] at hi
        simp only [Option.some.injEq] at hi
        subst hi
        obtain ⟨arr, fr, g1, g2, g3, g4⟩ := hr.boxes i ⟨el2, A ++ .val v :: B, row2⟩ (by rw [stat_hd, if_pos rfl]) rfl
        refine ⟨arr, fr, g1, g2, g3, ?_⟩
        have g5 := Box.rel_later hlater g4
        unfold Box.rel at g5 ⊢
        cases row2 with
        | false => exact rel_swap hc g5
        | true =>
          obtain ⟨us, sp, e, hl⟩ := g5
          exact ⟨us, sp, e, rel_swap hc hl⟩
      · obtain ⟨b0, h0, h1⟩ := live i b hi
        have := h1 e
        subst this
        obtain ⟨arr, fr, g1, g2, g3, g4⟩ := hr.boxes i b h0 hbk
        exact ⟨arr, fr, g1, g2, g3, Box.rel_later hlater g4⟩
    own := fun i b hi => by obtain ⟨b0, h0, _⟩ := live i b hi; exact hr.own i b0 h0
    inj := fun i i' bi bj hi hj he => by
      obtain ⟨b1, h1, _⟩ := live i bi hi
      obtain ⟨b2, h2, _⟩ := live i' bj hj
      exact hr.inj i i' b1 b2 h1 h2 he
    keep := fun i b hi hge => by obtain ⟨b0, h0, _⟩ := live i b hi; exact hr.keep i b0 h0 hge
    ext := hr.ext
    res := by
      obtain ⟨F, hG⟩ := hr.res
      refine hG.keep (fun i e cs R hi => ?_) (fun _ _ _ _ _ hi => hi) (fun _ _ ho => ho) (fun b _ hx _ _ => hx) (fun i bi hi => ?_)
      · rw [stat_hd] at hi ⊢
        by_cases e : i = j
        · rw [if_pos e] at hi; cases hi
        · rw [if_neg e] at hi ⊢; exact ⟨hi, rfl⟩
      · obtain ⟨b0, h0, _⟩ := live i bi hi
        exact .inl ⟨b0, h0, rfl⟩
    frame := hr.frame, big := hr.big, os := hr.os, tape := hr.tape, output := hr.output }
/-- a cell leads to memory that stays: a box -/
theorem LWP.thawCell {j k off len sz blk cap : Nat} {el el2 : TypeId} {A B : List CV} {row2 : Bool} {vals : List Value} {arr : Array Value} {fr : Nat × Nat}
    (hX : X blk = none) (hF : Frozen C blk arr fr) (hc : len ≤ cap) (hfit : off + cap * sz ≤ arr.size) (hsp : ∃ sp, arr.toList = vals ++ sp)
    (hs : s.all (fun p => p.2.inUse ((j, some ⟨el2, A ++ .val (.slice (some ⟨blk, off, none⟩) len cap) :: B, row2⟩) :: bx)) = true)
    (hb : ((j, some (⟨el2, A ++ .val (.slice (some ⟨blk, off, none⟩) len cap) :: B, row2⟩ : Box)) :: bx).all (fun p => match p.2 with | some b => b.cells.all (CV.inUse ((j, some ⟨el2, A ++ .val (.slice (some ⟨blk, off, none⟩) len cap) :: B, row2⟩) :: bx)) | none => true) = true)
    (hk : look k bx = none) (hjk : Nat.beq j k = false) (hlt : Nat.blt k 1000000 = true)
    (h : LWP P n C c Q ⟨s, (j, some ⟨el2, A ++ .slc k off len sz :: B, row2⟩) :: (k, some ⟨el, vals.map .val, true⟩) :: bx, X⟩) :
    LWP P n C c Q ⟨s, (j, some ⟨el2, A ++ .val (.slice (some ⟨blk, off, none⟩) len cap) :: B, row2⟩) :: bx, withBlock X blk (.cells arr el fr)⟩ := by
  have hjk' : k ≠ j := fun e => by rw [e, Nat.beq_refl] at hjk; cases hjk
  refine ⟨fun ι a w hr => ?_⟩
  have h1 := hr.thawName (k := k) hX hF hsp hs hb (by simp only [look, hjk, cond_false]; exact hk) (by rw [Nat.blt_eq] at hlt; exact hlt)
  -- the boxes change their places
  have h2 : Rel n C (put1 ι k (blk, arr.size)) ⟨s, (j, some ⟨el2, A ++ .val (.slice (some ⟨blk, off, none⟩) len cap) :: B, row2⟩) :: (k, some ⟨el, vals.map .val, true⟩) :: bx, X⟩ a w := by
    refine h1.same ⟨fun _ => rfl, fun i => ?_, rfl⟩
    simp only [St.stat, look]
    cases e1 : Nat.beq j i with
    | false => rfl
    | true =>
      cases e2 : Nat.beq k i with
      | false => rfl
      | true => exact absurd ((Nat.eq_of_beq_eq_true e2).trans (Nat.eq_of_beq_eq_true e1).symm) hjk'
  refine h.out _ a w (h2.recell ?_)
  simp only [CV.rel]
  rw [stat_hd, if_neg hjk']
  simp only [look, show Nat.beq k k = true from Nat.beq_refl k, cond_true]
  unfold put1
  rw [if_pos rfl]
  exact ⟨cap, rfl, hc, hfit⟩
/-- the way back -/
theorem LWP.freezeCell {j k off len sz : Nat} {el el2 : TypeId} {A B : List CV} {row2 : Bool} {vals : List Value} {row : Bool}
    (hs : s.all (fun p => p.2.inUse ((j, none) :: bx)) = true) (hA : A.all (CV.inUse ((j, none) :: bx)) = true) (hB : B.all (CV.inUse ((j, none) :: bx)) = true) (hb : bx.all (fun p => match p.2 with | some b => b.cells.all (CV.inUse ((j, none) :: bx)) | none => true) = true) (hk : look k bx = none) (hjk : Nat.beq j k = false)
    (h : ∀ (blk cap : Nat) (arr : Array Value) (fr : Nat × Nat), X blk = none → Frozen C blk arr fr → len ≤ cap → off + cap * sz ≤ arr.size → (∃ sp, arr.toList = vals ++ sp) →
      LWP P n C c Q ⟨s, (j, some ⟨el2, A ++ .val (.slice (some ⟨blk, off, none⟩) len cap) :: B, row2⟩) :: bx, withBlock X blk (.cells arr el fr)⟩) :
    LWP P n C c Q ⟨s, (j, some ⟨el2, A ++ .slc k off len sz :: B, row2⟩) :: (k, some ⟨el, vals.map .val, row⟩) :: bx, X⟩ := ⟨fun ι a w hr => by
  obtain ⟨blk, cap, arr, fr, h1, h2, h3, h4, h5, h6⟩ := hr.freezeCell hs hA hB hb hk hjk
  exact (h blk cap arr fr h1 h2 h3 h4 h5).out ι a w h6⟩
end
end Go.Lg
end
section
namespace Go.Lg
open Go Go.RowKit
section
variable {P : Program} {n : Nat} {ops os : List Oper} {acc : List Eff} {K : List Eff → St → Prop} {s : List (Nat × LV)} {bx : List (Nat × Option Box)} {X : Nat → Option Obj} {σ : St}
theorem LOK.cut2Slc {d k off len sz l h : Nat} {t : TypeId} {x y z : Operand} {ty : TypeId} {pos : String} {after_ : Array Edge} {g : Option (Nat × Bool)} {kl kh : IntKind} (hx : σ.ev x = some (.sv (.one (.slc k off len sz)))) (hy : σ.ev y = some (.sv (.one (.val (.int kl (l : Nat)))))) (hz : σ.ev z = some (.sv (.one (.val (.int kh (h : Nat))))))
    (ht : sliceOf P t = some sz) (hl : l ≤ h) (hh : h ≤ len) (h0 : l < len ∨ l = 0) : LOK P n ops ⟨some d, .slice t x (some y) (some z) none, ty, pos, after_, g⟩ σ ⟨[(d, .sv (.one (.slc k (off + l * sz) (h - l) sz)))], [], []⟩ :=
  LOK.value fun σ' ha C ι a w hr => by
    have h1 := hr.ev ((ha.ev (x := x) (by simp [Op.operands])).trans hx)
    have h2 : a.eval y = .int kl (l : Nat) := hr.ev ((ha.ev (x := y) (by simp [Op.operands])).trans hy)
    have h3 : a.eval z = .int kh (h : Nat) := hr.ev ((ha.ev (x := z) (by simp [Op.operands])).trans hz)
    obtain ⟨e, hu, hsz⟩ := sliceOf_spec ht
    have hrun : ∀ b c : Nat, len ≤ c → (Instr.sliceAt t (.slice (some ⟨b, off, none⟩) len c) (some (.int kl (l : Nat))) (some (.int kh (h : Nat))) none).run P w = .ok (.slice (some ⟨b, off + l * sz, none⟩) (h - l) (c - l)) w := by
      intro b c hc
      have ha0 : (⟨b, off, none⟩ : Addr).add (l * sz) = ⟨b, off + l * sz, none⟩ := addr_add _ _ _
      have hcl : (if c = l then (some ⟨b, off, none⟩ : Option Addr) else some ⟨b, off + l * sz, none⟩) = some ⟨b, off + l * sz, none⟩ := by
        rcases h0 with h0 | h0
        · rw [if_neg (by omega)]
        · rw [h0, Nat.zero_mul, Nat.add_zero, ite_self]
      simp [Instr.sliceAt, Instr.slice, run_underlying hu, Instr.sliceBounds, Instr.sliceBound, asIntOf, hsz, ha0, hcl]
      rw [if_pos (by omega), if_pos hl]
    simp only [LV.rel, SV.rel, CV.rel] at h1 ⊢
    cases hk : σ'.stat k with
    | none => simp [hk] at h1
    | some bb =>
      cases bb with
      | none =>
        simp only [hk] at h1 ⊢
        obtain ⟨b, c, h1, h4⟩ := h1
        exact ⟨_, by simp only [execOp, h1, h2, h3, Option.map_none, Option.map_some, Sem.run_bind, hrun b c h4, Result.andThen_ok, Sem.run_pure], b, c - l, rfl, by omega⟩
      | some b =>
        simp only [hk] at h1 ⊢
        obtain ⟨c, h1, h4, h5⟩ := h1
        refine ⟨_, by simp only [execOp, h1, h2, h3, Option.map_none, Option.map_some, Sem.run_bind, hrun _ c h4, Result.andThen_ok, Sem.run_pure], c - l, rfl, by omega, ?_⟩
        rw [Nat.add_assoc, ← Nat.add_mul, Nat.add_sub_cancel' (by omega)]; exact h5
theorem K.cut2Slc {d k off len sz l h off' len' : Nat} {t : TypeId} {x y z : Operand} {ty : TypeId} {pos : String} {after_ : Array Edge} {g : Option (Nat × Bool)} {kl kh : IntKind} (hx : (⟨s, bx, X⟩ : St).ev x = some (.sv (.one (.slc k off len sz)))) (hy : (⟨s, bx, X⟩ : St).ev y = some (.sv (.one (.val (.int kl (l : Nat)))))) (hz : (⟨s, bx, X⟩ : St).ev z = some (.sv (.one (.val (.int kh (h : Nat))))))
    (ht : sliceOf P t = some sz) (hl : l ≤ h) (hh : h ≤ len) (h0 : l < len ∨ l = 0) (ho : off + l * sz = off') (hn : h - l = len') (hw : Want ops s g) (kont : RunK P n ops os ⟨(d, .sv (.one (.slc k off' len' sz))) :: s, bx, X⟩ (⟨[(d, .sv (.one (.slc k off' len' sz)))], [], []⟩ :: acc) K) :
    RunK P n ops (⟨some d, .slice t x (some y) (some z) none, ty, pos, after_, g⟩ :: os) ⟨s, bx, X⟩ acc K := by
  subst ho hn
  exact RunK.g1 (LOK.cut2Slc hx hy hz ht hl hh h0) hw kont
/-- memory that stays: cut at both ends -/
theorem LOK.cut2X {d b off len cap sz l h : Nat} {t : TypeId} {x y z : Operand} {ty : TypeId} {pos : String} {after_ : Array Edge} {g : Option (Nat × Bool)} {kl kh : IntKind} (hx : σ.ev x = some (.sv (.one (.val (.slice (some ⟨b, off, none⟩) len cap))))) (hy : σ.ev y = some (.sv (.one (.val (.int kl (l : Nat)))))) (hz : σ.ev z = some (.sv (.one (.val (.int kh (h : Nat))))))
    (ht : sliceOf P t = some sz) (hl : l ≤ h) (hh : h ≤ len) (h0 : l < len ∨ l = 0) (hc : len ≤ cap) : LOK P n ops ⟨some d, .slice t x (some y) (some z) none, ty, pos, after_, g⟩ σ ⟨[(d, .sv (.one (.val (.slice (some ⟨b, off + l * sz, none⟩) (h - l) (cap - l)))))], [], []⟩ :=
  LOK.value fun σ' ha C ι a w hr => by
    have h1 : a.eval x = .slice (some ⟨b, off, none⟩) len cap := hr.ev ((ha.ev (x := x) (by simp [Op.operands])).trans hx)
    have h2 : a.eval y = .int kl (l : Nat) := hr.ev ((ha.ev (x := y) (by simp [Op.operands])).trans hy)
    have h3 : a.eval z = .int kh (h : Nat) := hr.ev ((ha.ev (x := z) (by simp [Op.operands])).trans hz)
    obtain ⟨e, hu, hsz⟩ := sliceOf_spec ht
    have hrun : (Instr.sliceAt t (.slice (some ⟨b, off, none⟩) len cap) (some (.int kl (l : Nat))) (some (.int kh (h : Nat))) none).run P w = .ok (.slice (some ⟨b, off + l * sz, none⟩) (h - l) (cap - l)) w := by
      have ha0 : (⟨b, off, none⟩ : Addr).add (l * sz) = ⟨b, off + l * sz, none⟩ := addr_add _ _ _
      have hcl : (if cap = l then (some ⟨b, off, none⟩ : Option Addr) else some ⟨b, off + l * sz, none⟩) = some ⟨b, off + l * sz, none⟩ := by
        rcases h0 with h0 | h0
        · rw [if_neg (by omega)]
        · rw [h0, Nat.zero_mul, Nat.add_zero, ite_self]
      simp [Instr.sliceAt, Instr.slice, run_underlying hu, Instr.sliceBounds, Instr.sliceBound, asIntOf, hsz, ha0, hcl]
      rw [if_pos (by omega), if_pos hl]
    exact ⟨_, by simp only [execOp, h1, h2, h3, Option.map_none, Option.map_some, Sem.run_bind, hrun, Result.andThen_ok, Sem.run_pure], rfl⟩
theorem K.cut2X {d b off len cap sz l h off' len' cap' : Nat} {t : TypeId} {x y z : Operand} {ty : TypeId} {pos : String} {after_ : Array Edge} {g : Option (Nat × Bool)} {kl kh : IntKind} (hx : (⟨s, bx, X⟩ : St).ev x = some (.sv (.one (.val (.slice (some ⟨b, off, none⟩) len cap))))) (hy : (⟨s, bx, X⟩ : St).ev y = some (.sv (.one (.val (.int kl (l : Nat)))))) (hz : (⟨s, bx, X⟩ : St).ev z = some (.sv (.one (.val (.int kh (h : Nat))))))
    (ht : sliceOf P t = some sz) (hl : l ≤ h) (hh : h ≤ len) (h0 : l < len ∨ l = 0) (hc : len ≤ cap) (ho : off + l * sz = off') (hn : h - l = len') (hk : cap - l = cap') (hw : Want ops s g) (kont : RunK P n ops os ⟨(d, .sv (.one (.val (.slice (some ⟨b, off', none⟩) len' cap')))) :: s, bx, X⟩ (⟨[(d, .sv (.one (.val (.slice (some ⟨b, off', none⟩) len' cap'))))], [], []⟩ :: acc) K) :
    RunK P n ops (⟨some d, .slice t x (some y) (some z) none, ty, pos, after_, g⟩ :: os) ⟨s, bx, X⟩ acc K := by
  subst ho hn hk
  exact RunK.g1 (LOK.cut2X hx hy hz ht hl hh h0 hc) hw kont
/-- memory that stays, read as a text -/
theorem LOK.convStrX {d b off len cap : Nat} {t t' : TypeId} {x : Operand} {ty : TypeId} {pos : String} {after : Array Edge} {g : Option (Nat × Bool)} {arr : Array Value} {el : TypeId} {fr : Nat × Nat} {l : List UInt8} (hx : σ.ev x = some (.sv (.one (.val (.slice (some ⟨b, off, none⟩) len cap))))) (hX : σ.X b = some (.cells arr el fr))
    (ht : isBytes P t = true) (ht' : P.underlying t' = some .string) (hm : off + len ≤ arr.size) (hl : (arr.toList.drop off).take len = l.map fun c => Value.int .u8 (c.toNat : Nat)) :
    LOK P n ops ⟨some d, .convert t t' x, ty, pos, after, g⟩ σ ⟨[(d, .sv (.one (.val (.string ⟨l.toArray⟩))))], [], []⟩ :=
  LOK.value fun σ' ha C ι a w hr => by
    have hv : a.eval x = .slice (some ⟨b, off, none⟩) len cap := hr.ev ((ha.ev (x := x) (by simp [Op.operands])).trans hx)
    have hw := hr.ext b _ (by rw [ha.X]; exact hX)
    have hb := run_load_bytes (P := P) hw hm (hl.trans (by rw [List.map_map]; rfl : (l.map fun c => Value.int .u8 (c.toNat : Nat)) = (l.map fun c => ((c.toNat : Nat) : Int)).map (Value.int .u8)))
    obtain ⟨eb, hu, hu8⟩ := isBytes_spec ht
    have h1 := run_convert_bytes_string w t t' eb (some ⟨b, off, none⟩) len cap hu hu8 ht'
    rw [run_bytesToString w _ len cap _ hb, foldl_push] at h1
    exact ⟨_, by simp only [execOp, hv, Sem.run_bind, h1, Result.andThen_ok, Sem.run_pure]; rfl, by simp [LV.rel, SV.rel, CV.rel]⟩
theorem K.convStrX {d b off len cap : Nat} {t t' : TypeId} {x : Operand} {ty : TypeId} {pos : String} {after : Array Edge} {g : Option (Nat × Bool)} {arr : Array Value} {el : TypeId} {fr : Nat × Nat} {l : List UInt8} (hx : (⟨s, bx, X⟩ : St).ev x = some (.sv (.one (.val (.slice (some ⟨b, off, none⟩) len cap))))) (hX : X b = some (.cells arr el fr))
    (ht : isBytes P t = true) (ht' : P.underlying t' = some .string) (hm : off + len ≤ arr.size) (hl : (arr.toList.drop off).take len = l.map fun c => Value.int .u8 (c.toNat : Nat)) (hw : Want ops s g)
    (kont : RunK P n ops os ⟨(d, .sv (.one (.val (.string ⟨l.toArray⟩)))) :: s, bx, X⟩ (⟨[(d, .sv (.one (.val (.string ⟨l.toArray⟩))))], [], []⟩ :: acc) K) :
    RunK P n ops (⟨some d, .convert t t' x, ty, pos, after, g⟩ :: os) ⟨s, bx, X⟩ acc K := RunK.g1 (LOK.convStrX hx hX ht ht' hm hl) hw kont
/-- append of a text to no slice -/
theorem LOK.appendStr0 {d by_ : Nat} {t tx e : TypeId} {x y : Operand} {ty : TypeId} {pos : String} {after_ : Array Edge} {g : Option (Nat × Bool)} {l : List UInt8}
    (hx : σ.ev x = some (.sv (.one (.val (.slice none 0 0))))) (hy : σ.ev y = some (.sv (.one (.val (.string ⟨l.toArray⟩))))) (hm : 1 ≤ l.length) (hinf : slcInfo P t = some (e, 1, by_)) (htx : P.underlying tx = some .string)
    (hfit : l.length * by_ ≤ 140737488355328) (h63 : l.length < 9223372036854775808) (hd : σ.fresh d = true) :
    LOK P n ops ⟨some d, .call ⟨.builtin .append, #[x, y], #[t, tx]⟩, ty, pos, after_, g⟩ σ ⟨[(d, .sv (.one (.slc d 0 l.length)))], [], [(d, some ⟨e, l.map bc, true⟩)]⟩ :=
  LOK.make fun σ' ha C ι a w hr => by
    have hd' : σ'.stat d = none := (ha.stat d (.inr (by simp))).trans (St.fresh_none hd)
    have h1 : a.eval x = .slice none 0 0 := hr.ev ((ha.ev (x := x) (by simp [Op.operands, Call.operands])).trans hx)
    have h2 : a.eval y = .string ⟨l.toArray⟩ := hr.ev ((ha.ev (x := y) (by simp [Op.operands, Call.operands])).trans hy)
    obtain ⟨v, w', ι', hrun, hrel, hv⟩ := append_nil_core (ty := ty) (m := l.length) hr hinf (xv := a.eval x) (yv := .string ⟨l.toArray⟩) h1 (Src.ofString w htx ⟨l.toArray⟩) (bc_bytes l) hd' (St.fresh_lt hd) hm hfit h63
    exact ⟨v, w', ι', by simp [execOp, resolve, invoke, builtin, h2, hrun], hrel, hv⟩
theorem K.appendStr0 {d by_ : Nat} {t tx e : TypeId} {x y : Operand} {ty : TypeId} {pos : String} {after_ : Array Edge} {g : Option (Nat × Bool)} {l : List UInt8}
    (hx : (⟨s, bx, X⟩ : St).ev x = some (.sv (.one (.val (.slice none 0 0))))) (hy : (⟨s, bx, X⟩ : St).ev y = some (.sv (.one (.val (.string ⟨l.toArray⟩))))) (hm : 1 ≤ l.length) (hinf : slcInfo P t = some (e, 1, by_)) (htx : P.underlying tx = some .string)
    (hfit : l.length * by_ ≤ 140737488355328) (h63 : l.length < 9223372036854775808) (hd : (⟨s, bx, X⟩ : St).fresh d = true) {nl : Nat} {nc : List CV} (hnl : l.length = nl) (hnc : l.map bc = nc) (hw : Want ops s g)
    (kont : RunK P n ops os ⟨(d, .sv (.one (.slc d 0 nl))) :: s, (d, some ⟨e, nc, true⟩) :: bx, X⟩ (⟨[(d, .sv (.one (.slc d 0 nl)))], [], [(d, some ⟨e, nc, true⟩)]⟩ :: acc) K) :
    RunK P n ops (⟨some d, .call ⟨.builtin .append, #[x, y], #[t, tx]⟩, ty, pos, after_, g⟩ :: os) ⟨s, bx, X⟩ acc K := by
  subst hnl hnc
  exact RunK.g2 (LOK.appendStr0 hx hy hm hinf htx hfit h63 hd) hw kont
/-- copy from slice to slice; the blocks may be one -/
theorem LOK.copySlc {d k k2 off off2 len len2 m : Nat} {t tx e el el2 : TypeId} {x y : Operand} {ty : TypeId} {pos : String} {after_ : Array Edge} {g : Option (Nat × Bool)} {cells cs2 : List CV} {row row2 : Bool} {us : List Value}
    (hx : σ.ev x = some (.sv (.one (.slc k off len)))) (hk : σ.stat k = some (some ⟨el, cells, row⟩)) (hy : σ.ev y = some (.sv (.one (.slc k2 off2 len2)))) (hk2 : σ.stat k2 = some (some ⟨el2, cs2, row2⟩)) (hu : P.underlying t = some (.slice e)) (hz : sizeIs P e = some 1)
    (hmn : Nat.min len2 len = m) (hm : off + m ≤ cells.length) (hm2 : off2 + m ≤ cs2.length) (hl : (cs2.drop off2).take m = us.map .val) (hone : us.all Value.oneCell' = true) :
    LOK P n ops ⟨some d, .call ⟨.builtin .copy, #[x, y], #[t, tx]⟩, ty, pos, after_, g⟩ σ ⟨[(d, .sv (.one (.val (.int .i64 (m : Nat)))))], [k2], [(k, some ⟨el, splice cells off (us.map .val), row⟩)]⟩ :=
  LOK.make fun σ' ha C ι a w hr => by
    have hk' : σ'.stat k = _ := (ha.stat k (.inr (by simp))).trans hk
    have hk2' : σ'.stat k2 = _ := (ha.stat k2 (.inl (by simp))).trans hk2
    have h1 := hr.ev ((ha.ev (x := x) (by simp [Op.operands, Call.operands])).trans hx)
    have h2 := hr.ev ((ha.ev (x := y) (by simp [Op.operands, Call.operands])).trans hy)
    simp only [LV.rel, SV.rel, CV.rel, hk'] at h1
    simp only [LV.rel, SV.rel, CV.rel, hk2'] at h2
    obtain ⟨c, h1, hlc, hcs⟩ := h1
    obtain ⟨c2, h2, hlc2, hcs2⟩ := h2
    obtain ⟨arr, fr, harr, hthaw, hasz, hrel⟩ := hr.boxes k _ hk' rfl
    obtain ⟨arr2, fr2, harr2, hthaw2, hasz2, hrel2⟩ := hr.boxes k2 _ hk2' rfl
    have hul : us.length = m := by
      have := congrArg List.length hl
      rw [List.length_take, List.length_drop, List.length_map] at this
      omega
    have hbl : off + us.length ≤ arr.size := by
      have := (Box.rel_part hrel (off := off) (m := m) (by simpa using hm)).1
      simp at this
      omega
    obtain ⟨hp2, hpart⟩ := Box.rel_part hrel2 (off := off2) (m := m) (by simpa using hm2)
    have hpart : CVs.rel σ'.stat ι (us.map .val) ((arr2.toList.drop off2).take m) := by rw [← hl]; exact hpart
    have hv2 := rel_vals hpart
    have hload := run_load_bytes (P := P) harr2 (m := m) (by simpa using hp2) hv2
    have hst := run_storeCells_at (P := P) hthaw us off 0 arr w rfl harr (by simpa using hbl) (fun v hv => List.all_eq_true.1 hone v hv)
    simp only [Nat.add_zero] at hst
    have hrun : (Builtin.copy_ #[t, tx] ty #[.slice (some ⟨(ι k).1, off, none⟩) len c, .slice (some ⟨(ι k2).1, off2, none⟩) len2 c2]).run P w = .ok (goInt m) (w.setRow (ι k).1 (splice arr.toList off us).toArray) := by
      have hq := run_sizeIs hz w
      simp [Builtin.copy_, run_underlying hu, Builtin.lenOf, Builtin.firstCells, hq, hmn, hload, hst]
      simp [splice]
    refine ⟨goInt m, w.setRow (ι k).1 (splice arr.toList off us).toArray, ι, by simp [execOp, resolve, invoke, builtin, h1, h2, hrun], ?_, rfl⟩
    exact hr.write hk' rfl rfl (b' := ⟨el, splice cells off (us.map .val), row⟩) (by rw [← hasz]; unfold splice; simp at hbl ⊢; omega) (by simpa using Box.rel_splice hrel (CVs.rel_map_val us) (by rw [List.length_map, hul]; exact hm))
theorem K.copySlc {d k k2 off off2 len len2 m : Nat} {t tx e el el2 : TypeId} {x y : Operand} {ty : TypeId} {pos : String} {after_ : Array Edge} {g : Option (Nat × Bool)} {cells cs2 : List CV} {row row2 : Bool} (us : List Value)
    (hx : (⟨s, bx, X⟩ : St).ev x = some (.sv (.one (.slc k off len)))) (hk : (⟨s, bx, X⟩ : St).stat k = some (some ⟨el, cells, row⟩)) (hy : (⟨s, bx, X⟩ : St).ev y = some (.sv (.one (.slc k2 off2 len2)))) (hk2 : (⟨s, bx, X⟩ : St).stat k2 = some (some ⟨el2, cs2, row2⟩)) (hu : P.underlying t = some (.slice e)) (hz : sizeIs P e = some 1)
    (hmn : Nat.min len2 len = m) (hm : off + m ≤ cells.length) (hm2 : off2 + m ≤ cs2.length) (hl : (cs2.drop off2).take m = us.map .val) (hone : us.all Value.oneCell' = true) {nc : List CV} (hc : splice cells off (us.map .val) = nc) (hw : Want ops s g)
    (kont : RunK P n ops os ⟨(d, .sv (.one (.val (.int .i64 (m : Nat))))) :: s, (k, some ⟨el, nc, row⟩) :: bx, X⟩ (⟨[(d, .sv (.one (.val (.int .i64 (m : Nat)))))], [k2], [(k, some ⟨el, nc, row⟩)]⟩ :: acc) K) :
    RunK P n ops (⟨some d, .call ⟨.builtin .copy, #[x, y], #[t, tx]⟩, ty, pos, after_, g⟩ :: os) ⟨s, bx, X⟩ acc K := by
  subst hc
  exact RunK.gen hw (LOK.copySlc hx hk hy hk2 hu hz hmn hm hm2 hl hone) kont
/-- copy out of memory that stays -/
theorem LOK.copyX {d k off len b2 off2 len2 cap2 m : Nat} {t tx e el el2 : TypeId} {x y : Operand} {ty : TypeId} {pos : String} {after_ : Array Edge} {g : Option (Nat × Bool)} {cells : List CV} {row : Bool} {arr2 : Array Value} {fr2 : Nat × Nat} {us : List Value}
    (hx : σ.ev x = some (.sv (.one (.slc k off len)))) (hk : σ.stat k = some (some ⟨el, cells, row⟩)) (hy : σ.ev y = some (.sv (.one (.val (.slice (some ⟨b2, off2, none⟩) len2 cap2))))) (hX : σ.X b2 = some (.cells arr2 el2 fr2)) (hu : P.underlying t = some (.slice e)) (hz : sizeIs P e = some 1)
    (hmn : Nat.min len2 len = m) (hm : off + m ≤ cells.length) (hm2 : off2 + m ≤ arr2.size) (hl : (arr2.toList.drop off2).take m = us) (hone : us.all Value.oneCell' = true) :
    LOK P n ops ⟨some d, .call ⟨.builtin .copy, #[x, y], #[t, tx]⟩, ty, pos, after_, g⟩ σ ⟨[(d, .sv (.one (.val (.int .i64 (m : Nat)))))], [], [(k, some ⟨el, splice cells off (us.map .val), row⟩)]⟩ :=
  LOK.make fun σ' ha C ι a w hr => by
    have hk' : σ'.stat k = _ := (ha.stat k (.inr (by simp))).trans hk
    have h1 := hr.ev ((ha.ev (x := x) (by simp [Op.operands, Call.operands])).trans hx)
    have h2 : a.eval y = .slice (some ⟨b2, off2, none⟩) len2 cap2 := hr.ev ((ha.ev (x := y) (by simp [Op.operands, Call.operands])).trans hy)
    have harr2 := hr.ext b2 _ (by rw [ha.X]; exact hX)
    simp only [LV.rel, SV.rel, CV.rel, hk'] at h1
    obtain ⟨c, h1, hlc, hcs⟩ := h1
    obtain ⟨arr, fr, harr, hthaw, hasz, hrel⟩ := hr.boxes k _ hk' rfl
    have hul : us.length = m := by
      have := congrArg List.length hl
      rw [List.length_take, List.length_drop, Array.length_toList] at this
      omega
    have hbl : off + us.length ≤ arr.size := by
      have := (Box.rel_part hrel (off := off) (m := m) (by simpa using hm)).1
      simp at this
      omega
    have hload := run_load_bytes (P := P) harr2 (m := m) hm2 hl
    have hst := run_storeCells_at (P := P) hthaw us off 0 arr w rfl harr (by simpa using hbl) (fun v hv => List.all_eq_true.1 hone v hv)
    simp only [Nat.add_zero] at hst
    have hrun : (Builtin.copy_ #[t, tx] ty #[.slice (some ⟨(ι k).1, off, none⟩) len c, .slice (some ⟨b2, off2, none⟩) len2 cap2]).run P w = .ok (goInt m) (w.setRow (ι k).1 (splice arr.toList off us).toArray) := by
      have hq := run_sizeIs hz w
      simp [Builtin.copy_, run_underlying hu, Builtin.lenOf, Builtin.firstCells, hq, hmn, hload, hst]
      simp [splice]
    refine ⟨goInt m, w.setRow (ι k).1 (splice arr.toList off us).toArray, ι, by simp [execOp, resolve, invoke, builtin, h1, h2, hrun], ?_, rfl⟩
    exact hr.write hk' rfl rfl (b' := ⟨el, splice cells off (us.map .val), row⟩) (by rw [← hasz]; unfold splice; simp at hbl ⊢; omega) (by simpa using Box.rel_splice hrel (CVs.rel_map_val us) (by rw [List.length_map, hul]; exact hm))
theorem K.copyX {d k off len b2 off2 len2 cap2 m : Nat} {t tx e el el2 : TypeId} {x y : Operand} {ty : TypeId} {pos : String} {after_ : Array Edge} {g : Option (Nat × Bool)} {cells : List CV} {row : Bool} {arr2 : Array Value} {fr2 : Nat × Nat} (us : List Value)
    (hx : (⟨s, bx, X⟩ : St).ev x = some (.sv (.one (.slc k off len)))) (hk : (⟨s, bx, X⟩ : St).stat k = some (some ⟨el, cells, row⟩)) (hy : (⟨s, bx, X⟩ : St).ev y = some (.sv (.one (.val (.slice (some ⟨b2, off2, none⟩) len2 cap2))))) (hX : X b2 = some (.cells arr2 el2 fr2)) (hu : P.underlying t = some (.slice e)) (hz : sizeIs P e = some 1)
    (hmn : Nat.min len2 len = m) (hm : off + m ≤ cells.length) (hm2 : off2 + m ≤ arr2.size) (hl : (arr2.toList.drop off2).take m = us) (hone : us.all Value.oneCell' = true) {nc : List CV} (hc : splice cells off (us.map .val) = nc) (hw : Want ops s g)
    (kont : RunK P n ops os ⟨(d, .sv (.one (.val (.int .i64 (m : Nat))))) :: s, (k, some ⟨el, nc, row⟩) :: bx, X⟩ (⟨[(d, .sv (.one (.val (.int .i64 (m : Nat)))))], [], [(k, some ⟨el, nc, row⟩)]⟩ :: acc) K) :
    RunK P n ops (⟨some d, .call ⟨.builtin .copy, #[x, y], #[t, tx]⟩, ty, pos, after_, g⟩ :: os) ⟨s, bx, X⟩ acc K := by
  subst hc
  exact RunK.gen hw (LOK.copyX hx hk hy hX hu hz hmn hm hm2 hl hone) kont
end
end Go.Lg
end
section
namespace Go.Lg
open Go Go.RowKit
/-- a slice's value leads to a block of H with these cells -/
def LeadsTo (H : Nat → Option Obj) (b : Nat) (v : Value) (el : TypeId) (sz : Nat) (vals : List Value) : Prop :=
  ∃ (len cap : Nat) (arr : Array Value) (fr : Nat × Nat), v = .slice (some ⟨b, 0, none⟩) len cap ∧ vals.length = len * sz ∧ len ≤ cap ∧ cap * sz ≤ arr.size ∧ H b = some (.cells arr el fr) ∧ ∃ sp, arr.toList = vals ++ sp
theorem LeadsTo.mono {H H' : Nat → Option Obj} {b : Nat} {v : Value} {el : TypeId} {sz : Nat} {vals : List Value} (h : LeadsTo H b v el sz vals) (he : H' b = H b) : LeadsTo H' b v el sz vals := by
  obtain ⟨len, cap, arr, fr, h1, h2, h3, h4, h5, h6⟩ := h
  exact ⟨len, cap, arr, fr, h1, h2, h3, h4, he.trans h5, h6⟩
theorem LeadsTo.cut {H : Nat → Option Obj} {b b' : Nat} {v : Value} {el : TypeId} {sz : Nat} {vals : List Value} (h : LeadsTo H b v el sz vals) (hne : b ≠ b') : LeadsTo (cutM H b') b v el sz vals := h.mono (cutM_other hne)
theorem LeadsTo.more {H : Nat → Option Obj} {b b' : Nat} {o : Obj} {v : Value} {el : TypeId} {sz : Nat} {vals : List Value} (h : LeadsTo H b v el sz vals) (hne : b ≠ b') : LeadsTo (withBlock H b' o) b v el sz vals := h.mono (by unfold withBlock; rw [if_neg hne])
theorem LeadsTo.ne_none {H : Nat → Option Obj} {b b' : Nat} {v : Value} {el : TypeId} {sz : Nat} {vals : List Value} (h : LeadsTo H b v el sz vals) (hn : H b' = none) : b ≠ b' := by
  obtain ⟨len, cap, arr, fr, h1, h2, h3, h4, h5, h6⟩ := h
  intro e
  rw [e, hn] at h5
  cases h5
theorem mid_inUse {bx : List (Nat × Option Box)} {l l' : List Value} {c : CV} (h : c.inUse bx = true) : (l.map CV.val ++ c :: l'.map CV.val).all (CV.inUse bx) = true := by
  rw [List.all_append, List.all_cons, vals_inUse, vals_inUse, h]; rfl
theorem Box.ren_mid {f : Nat → Nat} {e : TypeId} {l l' : List Value} {c c' : CV} {r : Bool} (h : c.ren f = c') : Box.ren f ⟨e, l.map CV.val ++ c :: l'.map CV.val, r⟩ = ⟨e, l.map CV.val ++ c' :: l'.map CV.val, r⟩ := by
  unfold Box.ren
  rw [List.map_append, List.map_cons, Go.Lg.ren_vals, Go.Lg.ren_vals, h]
theorem mid_get {α : Type} {A B : List α} {x : α} {i : Nat} (h : A.length = i) : (A ++ x :: B)[i]? = some x := by
  rw [List.getElem?_append_right (by omega), h, Nat.sub_self]; rfl
theorem look_swap {α : Type} {k k' j : Nat} {x y : α} {l : List (Nat × α)} (h : Nat.beq k k' = false) : look j ((k, x) :: (k', y) :: l) = look j ((k', y) :: (k, x) :: l) := by
  simp only [look]
  cases h1 : Nat.beq k j with
  | false => rfl
  | true =>
    cases h2 : Nat.beq k' j with
    | false => rfl
    | true =>
      have := (Nat.eq_of_beq_eq_true h1).trans (Nat.eq_of_beq_eq_true h2).symm
      rw [this, Nat.beq_refl] at h; cases h
theorem look_cons {α : Type} {j : Nat} {p : Nat × α} {l l' : List (Nat × α)} (h : look j l = look j l') : look j (p :: l) = look j (p :: l') := by
  obtain ⟨k, x⟩ := p
  simp only [look]
  rw [h]
theorem look_rot {α : Type} {k k' k2 j : Nat} {x y z : α} {l : List (Nat × α)} (h : Nat.beq k k2 = false) (h2 : Nat.beq k' k2 = false) : look j ((k, x) :: (k', y) :: (k2, z) :: l) = look j ((k2, z) :: (k, x) :: (k', y) :: l) :=
  (look_cons (look_swap h2)).trans (look_swap h)
section
variable {P : Program} {n : Nat} {C : Ctx} {c : Code} {Q : Exit → St → Prop} {X H : Nat → Option Obj} {s : List (Nat × LV)} {bx : List (Nat × Option Box)}
theorem LWP.openCell {j k sz b len : Nat} {v : Value} {el el2 : TypeId} {A B : List CV} {row2 : Bool} {vals : List Value}
    (hO : OwnedM C X H) (hv : LeadsTo H b v el sz vals) (hlen : vals.length = len * sz) (hsz : 0 < sz)
    (hs : s.all (fun p => p.2.inUse ((j, some ⟨el2, A ++ .val v :: B, row2⟩) :: bx)) = true)
    (hb : ((j, some (⟨el2, A ++ .val v :: B, row2⟩ : Box)) :: bx).all (fun p => match p.2 with | some b => b.cells.all (CV.inUse ((j, some ⟨el2, A ++ .val v :: B, row2⟩) :: bx)) | none => true) = true)
    (hk : look k bx = none) (hjk : Nat.beq j k = false) (hlt : Nat.blt k 1000000 = true)
    (h : LWP P n C c Q ⟨s, (j, some ⟨el2, A ++ .slc k 0 len sz :: B, row2⟩) :: (k, some ⟨el, vals.map .val, true⟩) :: bx, joinM X (cutM H b)⟩) :
    LWP P n C c Q ⟨s, (j, some ⟨el2, A ++ .val v :: B, row2⟩) :: bx, joinM X H⟩ := by
  obtain ⟨len', cap, arr, fr, rfl, h2, h3, h4, h5, h6⟩ := hv
  have e : len' = len := Nat.eq_of_mul_eq_mul_right hsz (h2.symm.trans hlen)
  subst e
  rw [joinM_cut h5]
  have hX : joinM X (cutM H b) b = none := by rw [joinM_out (cutM_at H b)]; exact (hO.own _ _ h5).2.2
  exact LWP.thawCell hX (hO.frozen h5) h3 (by omega) h6 hs hb hk hjk hlt h
theorem closed {blk len cap sz : Nat} {arr : Array Value} {fr : Nat × Nat} {el : TypeId} {vals : List Value} (hlen : vals.length = len * sz) (hX : joinM X H blk = none) (hO : OwnedM C X H) (hF : Frozen C blk arr fr) (hc : len ≤ cap) (hfit : 0 + cap * sz ≤ arr.size) (hsp : ∃ sp, arr.toList = vals ++ sp) :
    H blk = none ∧ OwnedM C X (withBlock H blk (.cells arr el fr)) ∧ LeadsTo (withBlock H blk (.cells arr el fr)) blk (.slice (some ⟨blk, 0, none⟩) len cap) el sz vals :=
  ⟨(joinM_none hX).1, hO.more hF hX, ⟨len, cap, arr, fr, rfl, hlen, hc, by omega, withBlock_at _ _ _, hsp⟩⟩
theorem LWP.closeCell {j k len sz : Nat} {el el2 : TypeId} {A B : List CV} {row2 : Bool} {vals : List Value} {row : Bool} (hO : OwnedM C X H) (hlen : vals.length = len * sz)
    (hs : s.all (fun p => p.2.inUse ((j, none) :: bx)) = true) (hA : A.all (CV.inUse ((j, none) :: bx)) = true) (hB : B.all (CV.inUse ((j, none) :: bx)) = true) (hb : bx.all (fun p => match p.2 with | some b => b.cells.all (CV.inUse ((j, none) :: bx)) | none => true) = true) (hk : look k bx = none) (hjk : Nat.beq j k = false)
    (h : ∀ (b : Nat) (o : Obj) (v : Value), H b = none → X b = none → OwnedM C X (withBlock H b o) → LeadsTo (withBlock H b o) b v el sz vals →
      LWP P n C c Q ⟨s, (j, some ⟨el2, A ++ .val v :: B, row2⟩) :: bx, joinM X (withBlock H b o)⟩) :
    LWP P n C c Q ⟨s, (j, some ⟨el2, A ++ .slc k 0 len sz :: B, row2⟩) :: (k, some ⟨el, vals.map .val, row⟩) :: bx, joinM X H⟩ := by
  refine LWP.freezeCell hs hA hB hb hk hjk fun blk cap arr fr h1 h2 h3 h4 h5 => ?_
  rw [joinM_with]
  obtain ⟨g1, g2, g3⟩ := closed (el := el) hlen h1 hO h2 h3 h4 h5
  exact h blk _ _ g1 (joinM_none h1).2 g2 g3
/-- a loop whose rounds lead to the next one's beginning -/
theorem LWP.loopL {c : Code} {σ : St} (I : Nat → St → Prop) (m : Nat) (h0 : Leads n C (I m) σ)
    (round : ∀ m σ, I m σ → LWP P n C c (thenQ (Leads n C (fun σ' => ∃ m', m' < m ∧ I m' σ')) Q) σ) : LWP P n C (.loop c) Q σ := by
  refine ⟨fun ι a w hr => ?_⟩
  have key : ∀ (m : Nat) (σ : St) (ι : Nat → Nat × Nat) (a : Act) (w : World), I m σ → Rel n C ι σ a w → Code.rounds P c (fun e a' w' => ∃ ι' σ', Q e σ' ∧ Rel n C ι' σ' a' w') (m + 1) a w := by
    intro m
    induction m using Nat.strongRecOn with
    | _ m ih =>
      intro σ ι a w hI hr
      rw [rounds_succ]
      refine wp_mono ((round m σ hI).out ι a w hr) ?_
      rintro e a' w' ⟨ι', σ', hq, hr'⟩
      cases e <;> try exact ⟨ι', σ', hq, hr'⟩
      obtain ⟨ι2, σ2, ⟨m', hlt, hI'⟩, hr2⟩ := hq.out ι' a' w' hr'
      exact rounds_le (by omega) (ih m' hlt σ2 ι2 a' w' hI' hr2)
  obtain ⟨ι2, σ2, hI, hr2⟩ := h0.out ι a w hr
  exact wp_loop_rounds (m + 1) (key m σ2 ι2 a w hI hr2)
theorem rel_front {S : Nat → Option (Option Box)} {ι : Nat → Nat × Nat} : ∀ {A B : List CV} {vs : List Value}, CVs.rel S ι (A ++ B) vs → ∃ va vb, vs = va ++ vb ∧ CVs.rel S ι A va
  | [], _, vs, _ => ⟨[], vs, rfl, trivial⟩
  | _ :: _, _, [], h => h.elim
  | _ :: A, B, v :: vs, h => by
    obtain ⟨va, vb, e, h1⟩ := rel_front (A := A) (B := B) h.2
    exact ⟨v :: va, vb, by rw [e]; rfl, h.1, h1⟩
/-- less is said of a box's cells -/
theorem Rel.rebox {ι : Nat → Nat × Nat} {a : Act} {w : World} {j : Nat} {e : TypeId} {cs cs' : List CV} {r r' : Bool}
    (himp : ∀ vs, Box.rel (⟨s, (j, some ⟨e, cs', r'⟩) :: bx, X⟩ : St).stat ι ⟨e, cs, r⟩ vs → Box.rel (⟨s, (j, some ⟨e, cs', r'⟩) :: bx, X⟩ : St).stat ι ⟨e, cs', r'⟩ vs)
    (hr : Rel n C ι ⟨s, (j, some ⟨e, cs, r⟩) :: bx, X⟩ a w) : Rel n C ι ⟨s, (j, some ⟨e, cs', r'⟩) :: bx, X⟩ a w := by
  have hlater := later_hd (s := s) (bx := bx) (k := j) ι ⟨e, cs, r⟩ ⟨e, cs', r'⟩ X X
  have live : ∀ i b, (⟨s, (j, some ⟨e, cs', r'⟩) :: bx, X⟩ : St).stat i = some (some b) → ∃ b0, (⟨s, (j, some ⟨e, cs, r⟩) :: bx, X⟩ : St).stat i = some (some b0) ∧ (i ≠ j → b = b0) := fun i b hi => by
    rw [stat_hd] at hi ⊢
    by_cases e : i = j
    · rw [if_pos e]; exact ⟨_, rfl, fun h => absurd e h⟩
    · rw [if_neg e] at hi ⊢; exact ⟨b, hi, fun _ => rfl⟩
  exact {
    defers := hr.defers, size := hr.size
    slots := fun d lv hd => by
      obtain ⟨v, hv, hvr⟩ := hr.slots d lv hd
      exact ⟨v, hv, LV.rel_later hlater hvr⟩
    boxes := fun i b hi hbk => by
      by_cases ei : i = j
      · subst ei
        rw [stat_hd, if_pos rfl] at hi
        simp only [Option.some.injEq] at hi
        subst hi
        obtain ⟨arr, fr, g1, g2, g3, g4⟩ := hr.boxes i ⟨e, cs, r⟩ (by rw [stat_hd, if_pos rfl]) rfl
        exact ⟨arr, fr, g1, g2, g3, himp _ (Box.rel_later hlater g4)⟩
      · obtain ⟨b0, h0, h1⟩ := live i b hi
        have := h1 ei
        subst this
        obtain ⟨arr, fr, g1, g2, g3, g4⟩ := hr.boxes i b h0 hbk
        exact ⟨arr, fr, g1, g2, g3, Box.rel_later hlater g4⟩
    own := fun i b hi => by obtain ⟨b0, h0, _⟩ := live i b hi; exact hr.own i b0 h0
    inj := fun i i' bi bj hi hj he => by
      obtain ⟨b1, h1, _⟩ := live i bi hi
      obtain ⟨b2, h2, _⟩ := live i' bj hj
      exact hr.inj i i' b1 b2 h1 h2 he
    keep := fun i b hi hge => by obtain ⟨b0, h0, _⟩ := live i b hi; exact hr.keep i b0 h0 hge
    ext := hr.ext
    res := by
      obtain ⟨F, hG⟩ := hr.res
      refine hG.keep (fun i e cs R hi => ?_) (fun _ _ _ _ _ hi => hi) (fun _ _ ho => ho) (fun b _ hx _ _ => hx) (fun i bi hi => ?_)
      · rw [stat_hd] at hi ⊢
        by_cases e : i = j
        · rw [if_pos e] at hi; cases hi
        · rw [if_neg e] at hi ⊢; exact ⟨hi, rfl⟩
      · obtain ⟨b0, h0, _⟩ := live i bi hi
        exact .inl ⟨b0, h0, rfl⟩
    frame := hr.frame, big := hr.big, os := hr.os, tape := hr.tape, output := hr.output }
/-- a box's last cells are forgotten -/
theorem Le.trim {j : Nat} {e : TypeId} {A B : List CV} {r : Bool} : Le n C ⟨s, (j, some ⟨e, A ++ B, r⟩) :: bx, X⟩ ⟨s, (j, some ⟨e, A, true⟩) :: bx, X⟩ := ⟨fun ι a w hr => ⟨ι, hr.rebox fun vs h => by
  unfold Box.rel at h ⊢
  cases r with
  | false =>
    obtain ⟨va, vb, e, h1⟩ := rel_front h
    exact ⟨va, vb, e, h1⟩
  | true =>
    obtain ⟨us, sp, e, hl⟩ := h
    obtain ⟨va, vb, e2, h1⟩ := rel_front hl
    exact ⟨va, vb ++ sp, by rw [e, e2, List.append_assoc], h1⟩⟩⟩
theorem Le.same {σ σ' : St} (h : Same σ σ') : Le n C σ σ' := ⟨fun ι _ _ hr => ⟨ι, hr.same h⟩⟩
theorem Leads.done {Mid : St → Prop} {σ : St} (h : Mid σ) : Leads n C Mid σ := ⟨fun ι a w hr => ⟨ι, σ, h, hr⟩⟩
theorem Leads.closeCell {Mid : St → Prop} {j k len sz : Nat} {el el2 : TypeId} {A B : List CV} {row2 : Bool} {vals : List Value} {row : Bool} (hO : OwnedM C X H) (hlen : vals.length = len * sz)
    (hs : s.all (fun p => p.2.inUse ((j, none) :: bx)) = true) (hA : A.all (CV.inUse ((j, none) :: bx)) = true) (hB : B.all (CV.inUse ((j, none) :: bx)) = true) (hb : bx.all (fun p => match p.2 with | some b => b.cells.all (CV.inUse ((j, none) :: bx)) | none => true) = true) (hk : look k bx = none) (hjk : Nat.beq j k = false)
    (h : ∀ (b : Nat) (o : Obj) (v : Value), H b = none → X b = none → OwnedM C X (withBlock H b o) → LeadsTo (withBlock H b o) b v el sz vals →
      Leads n C Mid ⟨s, (j, some ⟨el2, A ++ .val v :: B, row2⟩) :: bx, joinM X (withBlock H b o)⟩) :
    Leads n C Mid ⟨s, (j, some ⟨el2, A ++ .slc k 0 len sz :: B, row2⟩) :: (k, some ⟨el, vals.map .val, row⟩) :: bx, joinM X H⟩ := by
  refine Leads.freezeCell hs hA hB hb hk hjk fun blk cap arr fr h1 h2 h3 h4 h5 => ?_
  rw [joinM_with]
  obtain ⟨g1, g2, g3⟩ := closed (el := el) hlen h1 hO h2 h3 h4 h5
  exact h blk _ _ g1 (joinM_none h1).2 g2 g3
end
end Go.Lg
end
section
namespace Go.Lg
open Go Go.RowKit
def nilSlc : Value := .slice none 0 0
def blkOf : Value → Option Nat
  | .slice (some a) _ _ => some a.block
  | _ => none
theorem LeadsTo.blk {H : Nat → Option Obj} {b : Nat} {v : Value} {el : TypeId} {sz : Nat} {vals : List Value} (h : LeadsTo H b v el sz vals) : blkOf v = some b := by
  obtain ⟨len, cap, arr, fr, rfl, _⟩ := h
  rfl
/-- a slice's value: it leads to a block with these cells -/
def SliceTo (H : Nat → Option Obj) (v : Value) (el : TypeId) (vals : List Value) : Prop := ∃ b, LeadsTo H b v el 1 vals
theorem SliceTo.mono {H H' : Nat → Option Obj} {v : Value} {el : TypeId} {vals : List Value} (h : SliceTo H v el vals) (he : ∀ b, blkOf v = some b → H' b = H b) : SliceTo H' v el vals := by
  obtain ⟨b, h⟩ := h
  exact ⟨b, h.mono (he b h.blk)⟩
theorem SliceTo.some_of {H : Nat → Option Obj} {v : Value} {el : TypeId} {vals : List Value} (h : SliceTo H v el vals) {b : Nat} (hb : blkOf v = some b) : H b ≠ Option.none := by
  obtain ⟨b', h⟩ := h
  have := h.blk
  rw [this] at hb
  simp only [Option.some.injEq] at hb
  subst hb
  obtain ⟨_, _, _, _, _, _, _, _, h5, _⟩ := h
  rw [h5]; simp
theorem cut_with {H : Nat → Option Obj} {b : Nat} {o : Obj} (h : H b = none) : cutM (withBlock H b o) b = H := by
  funext i
  unfold cutM withBlock
  by_cases e : i = b
  · rw [if_pos e, e, h]
  · rw [if_neg e, if_neg e]
/-- slices that lie in a row; those at op are open: nothing is said of them -/
structure Cells (H : Nat → Option Obj) (el : TypeId) (op : List Nat) (cells : List Value) (chs : List (List Value)) : Prop where
  len : cells.length = chs.length
  at_ : ∀ (i : Nat) (c : Value) (x : List Value), i ∉ op → cells[i]? = some c → chs[i]? = some x → SliceTo H c el x
  apart : ∀ (i j : Nat) (c c' : Value) (b : Nat), i ∉ op → j ∉ op → cells[i]? = some c → cells[j]? = some c' → blkOf c = some b → blkOf c' = some b → i = j
theorem Cells.nil (H : Nat → Option Obj) (el : TypeId) (op : List Nat) : Cells H el op [] [] := ⟨rfl, fun i c x _ h => (by simp at h), fun i j c c' b _ _ h => (by simp at h)⟩
section
variable {H : Nat → Option Obj} {el : TypeId} {op : List Nat} {cells : List Value} {chs : List (List Value)}
theorem Cells.some_of (G : Cells H el op cells chs) {i : Nat} {c : Value} {b : Nat} (hi : i ∉ op) (hc : cells[i]? = some c) (hb : blkOf c = some b) : H b ≠ none := by
  obtain ⟨x, hx⟩ : ∃ x, chs[i]? = some x := ⟨_, List.getElem?_eq_getElem (by have := (List.getElem?_eq_some_iff.1 hc).1; have := G.len; omega)⟩
  exact (G.at_ i c x hi hc hx).some_of hb
/-- the same memory, where their blocks are -/
theorem Cells.mono {H' : Nat → Option Obj} (G : Cells H el op cells chs) (h : ∀ (i : Nat) (c : Value) (b : Nat), i ∉ op → cells[i]? = some c → blkOf c = some b → H' b = H b) : Cells H' el op cells chs :=
  ⟨G.len, fun i c x hi hc hx => (G.at_ i c x hi hc hx).mono fun b hb => h i c b hi hc hb, G.apart⟩
/-- more memory -/
theorem Cells.more (G : Cells H el op cells chs) {b : Nat} {o : Obj} (hb : H b = none) : Cells (withBlock H b o) el op cells chs := G.mono fun i c b' hi hc hb' => by
  unfold withBlock
  rw [if_neg (fun e => G.some_of hi hc hb' (by rw [e, hb]))]
/-- one is opened -/
theorem Cells.openAt (G : Cells H el op cells chs) {p : Nat} {c : Value} {b : Nat} (hp : p ∉ op) (hc : cells[p]? = some c) (hb : blkOf c = some b) : Cells (cutM H b) el (p :: op) cells chs := by
  have G' : Cells H el (p :: op) cells chs := ⟨G.len, fun i c x hi => G.at_ i c x fun h => hi (List.mem_cons_of_mem _ h), fun i j c c' b hi hj => G.apart i j c c' b (fun h => hi (List.mem_cons_of_mem _ h)) (fun h => hj (List.mem_cons_of_mem _ h))⟩
  refine G'.mono fun i ci bi hi hci hbi => cutM_other fun e => ?_
  have := G.apart i p ci c b (fun h => hi (List.mem_cons_of_mem _ h)) hp hci hc (by rw [hbi, e]) hb
  exact hi (by rw [this]; exact List.mem_cons_self ..)
/-- one that is open is closed -/
theorem Cells.shutAt {p : Nat} (G : Cells H el (p :: op) cells chs) (hp : p < cells.length) {b : Nat} {o : Obj} {v : Value} {x : List Value} (hb : H b = none) (hv : LeadsTo (withBlock H b o) b v el 1 x) : Cells (withBlock H b o) el op (cells.set p v) (chs.set p x) := by
  have hno : ∀ (i : Nat), i ∉ op → i ≠ p → i ∉ p :: op := fun i hi hne h => by
    rcases List.mem_cons.1 h with h | h
    · exact hne h
    · exact hi h
  refine ⟨by rw [List.length_set, List.length_set]; exact G.len, fun i c x' hi hc hx => ?_, fun i j c c' β hi hj hc hc' hβ hβ' => ?_⟩
  · by_cases e : i = p
    · subst e
      rw [List.getElem?_set_self hp] at hc
      rw [List.getElem?_set_self (by have := G.len; omega)] at hx
      simp only [Option.some.injEq] at hc hx
      subst hc hx
      exact ⟨b, hv⟩
    · rw [List.getElem?_set_ne (fun e' => e e'.symm)] at hc hx
      exact (G.more hb).at_ i c x' (hno i hi e) hc hx
  · by_cases e : i = p
    · by_cases e2 : j = p
      · omega
      · exfalso
        subst e
        rw [List.getElem?_set_self hp] at hc
        simp only [Option.some.injEq] at hc
        subst hc
        rw [List.getElem?_set_ne (fun e' => e2 e'.symm)] at hc'
        rw [hv.blk] at hβ
        simp only [Option.some.injEq] at hβ
        exact G.some_of (hno j hj e2) hc' hβ' (by rw [← hβ, hb])
    · by_cases e2 : j = p
      · exfalso
        subst e2
        rw [List.getElem?_set_self hp] at hc'
        simp only [Option.some.injEq] at hc'
        subst hc'
        rw [List.getElem?_set_ne (fun e' => e e'.symm)] at hc
        rw [hv.blk] at hβ'
        simp only [Option.some.injEq] at hβ'
        exact G.some_of (hno i hi e) hc hβ (by rw [← hβ', hb])
      · rw [List.getElem?_set_ne (fun e' => e e'.symm)] at hc
        rw [List.getElem?_set_ne (fun e' => e2 e'.symm)] at hc'
        exact G.apart i j c c' β (hno i hi e) (hno j hj e2) hc hc' hβ hβ'
/-- one more, that is open -/
theorem Cells.snoc (G : Cells H el op cells chs) (c : Value) (x : List Value) : Cells H el (cells.length :: op) (cells ++ [c]) (chs ++ [x]) := by
  have hlt : ∀ (i : Nat) (ci : Value), i ∉ cells.length :: op → (cells ++ [c])[i]? = some ci → i ∉ op ∧ i < cells.length ∧ cells[i]? = some ci := fun i ci hi hci => by
    have h1 := (List.getElem?_eq_some_iff.1 hci).1
    rw [List.length_append] at h1
    have h2 : i ≠ cells.length := fun e => hi (by rw [e]; exact List.mem_cons_self ..)
    have h3 : i < cells.length := by simp at h1; omega
    rw [List.getElem?_append_left h3] at hci
    exact ⟨fun h => hi (List.mem_cons_of_mem _ h), h3, hci⟩
  refine ⟨by rw [List.length_append, List.length_append, G.len]; rfl, fun i ci xi hi hci hxi => ?_, fun i j ci cj β hi hj hci hcj hβ hβ' => ?_⟩
  · obtain ⟨h1, h2, h3⟩ := hlt i ci hi hci
    rw [List.getElem?_append_left (by have := G.len; omega)] at hxi
    exact G.at_ i ci xi h1 h3 hxi
  · obtain ⟨h1, _, h3⟩ := hlt i ci hi hci
    obtain ⟨g1, _, g3⟩ := hlt j cj hj hcj
    exact G.apart i j ci cj β h1 g1 h3 g3 hβ hβ'
/-- the first ones -/
theorem Cells.take (G : Cells H el op cells chs) (k : Nat) : Cells H el op (cells.take k) (chs.take k) := by
  have hlt : ∀ (i : Nat) (ci : Value), (cells.take k)[i]? = some ci → cells[i]? = some ci := fun i ci h => by
    rw [List.getElem?_take] at h
    split at h
    · exact h
    · cases h
  refine ⟨by rw [List.length_take, List.length_take, G.len], fun i ci xi hi hci hxi => G.at_ i ci xi hi (hlt i ci hci) ?_, fun i j ci cj β hi hj hci hcj => G.apart i j ci cj β hi hj (hlt i ci hci) (hlt j cj hcj)⟩
  rw [List.getElem?_take] at hxi
  split at hxi
  · exact hxi
  · cases hxi
end
/-- a slice of slices -/
def Grid (H : Nat → Option Obj) (st el : TypeId) (v : Value) (cells : List Value) (chs : List (List Value)) : Prop :=
  (∃ db, LeadsTo H db v st 1 cells ∧ Cells (cutM H db) el [] cells chs) ∨ (v = nilSlc ∧ cells = [] ∧ chs = [])
theorem Grid.empty (H : Nat → Option Obj) (st el : TypeId) : Grid H st el nilSlc [] [] := .inr ⟨rfl, rfl, rfl⟩
theorem Grid.shut {H : Nat → Option Obj} {st el : TypeId} {v : Value} {cells : List Value} {chs : List (List Value)} {d : Nat} {o : Obj} (G : Cells H el [] cells chs) (hd : H d = none) (hv : LeadsTo (withBlock H d o) d v st 1 cells) : Grid (withBlock H d o) st el v cells chs :=
  .inl ⟨d, hv, by rw [cut_with hd]; exact G⟩
theorem Grid.real {H : Nat → Option Obj} {st el : TypeId} {v : Value} {cells : List Value} {chs : List (List Value)} (G : Grid H st el v cells chs) (hne : chs ≠ []) : ∃ db, LeadsTo H db v st 1 cells ∧ Cells (cutM H db) el [] cells chs := G.resolve_right fun h => hne h.2.2
theorem Grid.len {H : Nat → Option Obj} {st el : TypeId} {v : Value} {cells : List Value} {chs : List (List Value)} (G : Grid H st el v cells chs) : cells.length = chs.length := by
  rcases G with ⟨_, _, G⟩ | ⟨_, h1, h2⟩
  · exact G.len
  · rw [h1, h2]; rfl
end Go.Lg
end
section
namespace Go.Lg
open Go Go.RowKit
section
variable {P : Program} {n : Nat} {ops os : List Oper} {acc : List Eff} {K : List Eff → St → Prop} {s : List (Nat × LV)} {bx : List (Nat × Option Box)} {X : Nat → Option Obj} {σ : St}
theorem run_equal_slcNil {P : Program} (w : World) (t : TypeId) (a : Option Addr) (l c sz : Nat) (h : sliceOf P t = some sz) : (Op.equal t (.slice a l c) (.slice none 0 0)).run P w = .ok a.isNone w := by
  obtain ⟨e, hu, _⟩ := sliceOf_spec h
  have key : ∀ d, (Op.equalIn (d + 1) t (.slice a l c) (.slice none 0 0)).run P w = .ok a.isNone w := fun d => by
    cases a <;> simp [Op.equalIn, run_underlying hu]
  exact key 9999
theorem LOK.slcNil {d : Nat} {op : BinOp} {t t' : TypeId} {x : Operand} {ty : TypeId} {pos : String} {after_ : Array Edge} {g : Option (Nat × Bool)} {r : Bool} {ad : Option Addr} {len cap sz : Nat} (hx : σ.ev x = some (.sv (.one (.val (.slice ad len cap))))) (ht : sliceOf P t = some sz)
    (hop : (op = .eql ∧ r = ad.isNone) ∨ (op = .neq ∧ r = !ad.isNone)) :
    LOK P n ops ⟨some d, .binOp op t x (.const (.slice none 0 0)) t', ty, pos, after_, g⟩ σ ⟨[(d, .sv (.one (.val (.bool r))))], [], []⟩ :=
  LOK.value fun σ' ha C ι a w hr => by
    have hv : a.eval x = .slice ad len cap := hr.ev ((ha.ev (x := x) (by simp [Op.operands])).trans hx)
    have hc : a.eval (.const (.slice none 0 0)) = .slice none 0 0 := rfl
    have h1 := run_equal_slcNil w t ad len cap sz ht
    rcases hop with ⟨rfl, rfl⟩ | ⟨rfl, rfl⟩
    · exact ⟨_, by simp only [execOp, hv, hc, eqGuard, Sem.run_bind]; simp [binOp, h1], rfl⟩
    · exact ⟨_, by simp only [execOp, hv, hc, eqGuard, Sem.run_bind]; simp [binOp, h1], rfl⟩
theorem K.slcNil {d : Nat} {op : BinOp} {t t' : TypeId} {x : Operand} {ty : TypeId} {pos : String} {after_ : Array Edge} {g : Option (Nat × Bool)} {r : Bool} {ad : Option Addr} {len cap sz : Nat} (hx : (⟨s, bx, X⟩ : St).ev x = some (.sv (.one (.val (.slice ad len cap))))) (ht : sliceOf P t = some sz)
    (hop : (op = .eql ∧ r = ad.isNone) ∨ (op = .neq ∧ r = !ad.isNone)) (hw : Want ops s g) (kont : RunK P n ops os ⟨(d, .sv (.one (.val (.bool r)))) :: s, bx, X⟩ (⟨[(d, .sv (.one (.val (.bool r))))], [], []⟩ :: acc) K) :
    RunK P n ops (⟨some d, .binOp op t x (.const (.slice none 0 0)) t', ty, pos, after_, g⟩ :: os) ⟨s, bx, X⟩ acc K := RunK.g1 (LOK.slcNil hx ht hop) hw kont
end
end Go.Lg
end
section
-- a column in memory: its chunks, and what opens and shuts it
namespace Go.Lg.Col
open Go Go.Lg
def byV (l : List UInt8) : List Value := l.map fun c => .int .u8 (c.toNat : Nat)
theorem byV_bc (l : List UInt8) : (byV l).map CV.val = l.map bc := by unfold byV; rw [List.map_map]; rfl
theorem byV_len (l : List UInt8) : (byV l).length = l.length := List.length_map _
theorem mid_of {α : Type} {l : List α} {i : Nat} {x : α} (h : l[i]? = some x) : l = l.take i ++ x :: l.drop (i + 1) := by
  obtain ⟨hi, e⟩ := List.getElem?_eq_some_iff.1 h
  rw [← e, List.getElem_cons_drop, List.take_append_drop]
theorem splice_len {α : Type} {b : List α} {p : Nat} {r : List α} (h : p + r.length ≤ b.length) : (splice b p r).length = b.length := by
  unfold splice; simp only [List.length_append, List.length_take, List.length_drop]; omega
theorem splice_at {α : Type} {b : List α} {p : Nat} {r : List α} (h : p + r.length ≤ b.length) : ((splice b p r).drop p).take r.length = r := by
  unfold splice
  have hp : (b.take p).length = p := by rw [List.length_take]; omega
  rw [List.append_assoc]
  conv => lhs; arg 2; arg 1; rw [← hp]
  rw [List.drop_left, List.take_left]
theorem splice_out {α : Type} {b : List α} {p k : Nat} {r : List α} (h : p + r.length ≤ b.length) (hk : k < p ∨ p + r.length ≤ k) : (splice b p r)[k]? = b[k]? := by
  unfold splice
  have hp : (b.take p).length = p := by rw [List.length_take]; omega
  rcases hk with hk | hk
  · rw [List.append_assoc, List.getElem?_append_left (by omega), List.getElem?_take, if_pos hk]
  · rw [List.getElem?_append_right (by rw [List.length_append]; omega), List.length_append, hp, List.getElem?_drop]
    congr 1; omega
/-- the bytes of the row i -/
def rowOf (B : List (List UInt8)) (z i : Nat) : List UInt8 := ((B.getD (i / 16) []).drop (i % 16 * z)).take z
theorem place_fit (i z : Nat) : i % 16 * z + z ≤ 16 * z := by
  have h : (i % 16 + 1) * z ≤ 16 * z := Nat.mul_le_mul_right z (by omega)
  rw [Nat.succ_mul] at h; exact h
theorem getD_at {α : Type} {B : List α} {p : Nat} {d : α} (h : p < B.length) : B[p]? = some (B.getD p d) := by
  rw [List.getD_eq_getElem?_getD, List.getElem?_eq_getElem h]; rfl
theorem wide_at {B : List (List UInt8)} {w p : Nat} (hw : ∀ b ∈ B, b.length = w) (h : p < B.length) : (B.getD p []).length = w := hw _ (List.mem_of_getElem? (getD_at h))
/-- a row is written -/
def wr (B : List (List UInt8)) (z i : Nat) (row : List UInt8) : List (List UInt8) := B.set (i / 16) (splice (B.getD (i / 16) []) (i % 16 * z) row)
theorem wr_len (B : List (List UInt8)) (z i : Nat) (row : List UInt8) : (wr B z i row).length = B.length := List.length_set ..
theorem wr_wide {B : List (List UInt8)} {z i : Nat} {row : List UInt8} (hw : ∀ b ∈ B, b.length = 16 * z) (hi : i / 16 < B.length) (hr : row.length = z) : ∀ b ∈ wr B z i row, b.length = 16 * z := fun b hb => by
  rcases List.mem_or_eq_of_mem_set hb with hb | rfl
  · exact hw b hb
  · have := place_fit i z
    rw [splice_len (by rw [wide_at hw hi, hr]; omega), wide_at hw hi]
theorem wr_same {B : List (List UInt8)} {z i : Nat} {row : List UInt8} (hw : ∀ b ∈ B, b.length = 16 * z) (hi : i / 16 < B.length) (hr : row.length = z) : rowOf (wr B z i row) z i = row := by
  unfold rowOf wr
  have := place_fit i z
  rw [List.getD_eq_getElem?_getD, List.getElem?_set_self hi, Option.getD_some]
  conv => lhs; arg 1; rw [← hr]
  rw [hr]
  have h := splice_at (b := B.getD (i / 16) []) (p := i % 16 * z) (r := row) (by rw [wide_at hw hi, hr]; omega)
  rw [hr] at h; exact h
theorem wr_other {B : List (List UInt8)} {z i j : Nat} {row : List UInt8} (hw : ∀ b ∈ B, b.length = 16 * z) (hi : i / 16 < B.length) (hr : row.length = z) (hj : j ≠ i) : rowOf (wr B z i row) z j = rowOf B z j := by
  unfold rowOf wr
  have hf := place_fit i z
  by_cases e : i / 16 = j / 16
  · rw [← e, List.getD_eq_getElem?_getD, List.getElem?_set_self hi, Option.getD_some]
    apply List.ext_getElem?
    intro t
    rw [List.getElem?_take, List.getElem?_take]
    by_cases ht : t < z
    · rw [if_pos ht, if_pos ht, List.getElem?_drop, List.getElem?_drop]
      refine splice_out (by rw [wide_at hw hi, hr]; omega) ?_
      rw [hr]
      have hne : j % 16 ≠ i % 16 := fun h => hj (by omega)
      rcases Nat.lt_or_gt_of_ne hne with h | h
      · left
        have h2 : (j % 16 + 1) * z ≤ i % 16 * z := Nat.mul_le_mul_right z h
        rw [Nat.succ_mul] at h2; omega
      · right
        have h2 : (i % 16 + 1) * z ≤ j % 16 * z := Nat.mul_le_mul_right z h
        rw [Nat.succ_mul] at h2; omega
    · rw [if_neg ht, if_neg ht]
  · rw [List.getD_eq_getElem?_getD, List.getElem?_set_ne e, ← List.getD_eq_getElem?_getD]
/-- the chunks hold the rows -/
structure Packed (z q : Nat) (L B : List (List UInt8)) : Prop where
  nb : B.length = (L.length + 15) / 16
  wide : ∀ b ∈ B, b.length = 16 * z
  row : ∀ (i : Nat) (l : List UInt8), L[i]? = some l → rowOf B z i = l
  rows : ∀ r ∈ L, r.length = z
  fit : L.length ≤ q
  small : z ≤ 256 ∧ q ≤ 65536
section
variable {z q : Nat} {L B : List (List UInt8)}
theorem Packed.nil (h : z ≤ 256 ∧ q ≤ 65536) : Packed z q [] [] := ⟨rfl, fun b hb => (by cases hb), fun i l hl => (by cases hl), fun b hb => (by cases hb), Nat.zero_le _, h⟩
theorem Packed.chunk (h : Packed z q L B) {i : Nat} (hi : i < L.length) : i / 16 < B.length := by rw [h.nb]; omega
theorem Packed.len_at (h : Packed z q L B) {p : Nat} (hp : p < B.length) : (B.getD p []).length = 16 * z := wide_at h.wide hp
theorem Packed.set (h : Packed z q L B) {i : Nat} (hi : i < L.length) {row : List UInt8} (hr : row.length = z) : Packed z q (L.set i row) (wr B z i row) := by
  have hp := h.chunk hi
  refine ⟨by rw [wr_len, List.length_set]; exact h.nb, wr_wide h.wide hp hr, fun j l hl => ?_, fun r hr' => ?_, by rw [List.length_set]; exact h.fit, h.small⟩
  · by_cases e : j = i
    · subst e
      rw [List.getElem?_set_self hi] at hl
      simp only [Option.some.injEq] at hl
      rw [wr_same h.wide hp hr, hl]
    · rw [List.getElem?_set_ne (fun e' => e e'.symm)] at hl
      rw [wr_other h.wide hp hr e]; exact h.row j l hl
  · rcases List.mem_or_eq_of_mem_set hr' with hr' | rfl
    · exact h.rows r hr'
    · exact hr
theorem Packed.push (h : Packed z q L B) {row : List UInt8} (hr : row.length = z) (hf : L.length < q) (hn : L.length % 16 ≠ 0) : Packed z q (L ++ [row]) (wr B z L.length row) := by
  have hp : L.length / 16 < B.length := by rw [h.nb]; omega
  refine ⟨by rw [wr_len, List.length_append, h.nb]; simp only [List.length_singleton]; omega, wr_wide h.wide hp hr, fun j l hl => ?_, fun r hr' => ?_, by rw [List.length_append]; exact hf, h.small⟩
  · by_cases e : j = L.length
    · subst e
      rw [List.getElem?_append_right (Nat.le_refl _), Nat.sub_self] at hl
      simp only [List.getElem?_cons_zero, Option.some.injEq] at hl
      rw [wr_same h.wide hp hr, hl]
    · have h1 := (List.getElem?_eq_some_iff.1 hl).1
      rw [List.length_append] at h1
      simp only [List.length_singleton] at h1
      rw [List.getElem?_append_left (by omega)] at hl
      rw [wr_other h.wide hp hr e]; exact h.row j l hl
  · rcases List.mem_append.1 hr' with hr' | hr'
    · exact h.rows r hr'
    · rw [List.mem_singleton.1 hr']; exact hr
theorem Packed.push_new (h : Packed z q L B) {row : List UInt8} (hr : row.length = z) (hf : L.length < q) (hn : L.length % 16 = 0) : Packed z q (L ++ [row]) (wr (B ++ [List.replicate (16 * z) 0]) z L.length row) := by
  have hb : B.length = L.length / 16 := by rw [h.nb]; omega
  have hw : ∀ b ∈ B ++ [List.replicate (16 * z) (0 : UInt8)], b.length = 16 * z := fun b hb => by
    rcases List.mem_append.1 hb with hb | hb
    · exact h.wide b hb
    · rw [List.mem_singleton.1 hb, List.length_replicate]
  have hp : L.length / 16 < (B ++ [List.replicate (16 * z) (0 : UInt8)]).length := by rw [List.length_append]; simp only [List.length_singleton]; omega
  refine ⟨by rw [wr_len, List.length_append, List.length_append, hb]; simp only [List.length_singleton]; omega, wr_wide hw hp hr, fun j l hl => ?_, fun r hr' => ?_, by rw [List.length_append]; exact hf, h.small⟩
  · by_cases e : j = L.length
    · subst e
      rw [List.getElem?_append_right (Nat.le_refl _), Nat.sub_self] at hl
      simp only [List.getElem?_cons_zero, Option.some.injEq] at hl
      rw [wr_same hw hp hr, hl]
    · have h1 := (List.getElem?_eq_some_iff.1 hl).1
      rw [List.length_append] at h1
      simp only [List.length_singleton] at h1
      rw [List.getElem?_append_left (by omega)] at hl
      rw [wr_other hw hp hr e, ← h.row j l hl]
      unfold rowOf
      rw [List.getD_eq_getElem?_getD, List.getElem?_append_left (by omega), ← List.getD_eq_getElem?_getD]
  · rcases List.mem_append.1 hr' with hr' | hr'
    · exact h.rows r hr'
    · rw [List.mem_singleton.1 hr']; exact hr
theorem Packed.take (h : Packed z q L B) {n : Nat} (hn : n ≤ L.length) : Packed z q (L.take n) (B.take ((n + 15) / 16)) := by
  refine ⟨by rw [List.length_take, List.length_take, h.nb]; omega, fun b hb => h.wide b (List.mem_of_mem_take hb), fun j l hl => ?_, fun r hr => h.rows r (List.mem_of_mem_take hr), by have := h.fit; rw [List.length_take]; omega, h.small⟩
  rw [List.getElem?_take] at hl
  split at hl
  · rw [← h.row j l hl]
    unfold rowOf
    rw [List.getD_eq_getElem?_getD, List.getElem?_take, if_pos (by omega), ← List.getD_eq_getElem?_getD]
  · cases hl
theorem Packed.swap (h : Packed z q L B) {i : Nat} (hi : i < L.length) {l : List UInt8} (hl : L[L.length - 1]? = some l) : Packed z q (swapL L i) ((wr B z i l).take ((L.length - 1 + 15) / 16)) := by
  rw [swapL_at hl]
  exact (h.set hi (h.rows l (List.mem_of_getElem? hl))).take (by rw [List.length_set]; omega)
end
/-- what a column's memory holds, but for its first block -/
structure ColIn (H : Nat → Option Obj) (st : TypeId) (z q : Nat) (L B : List (List UInt8)) (v : Value) (cells : List Value) : Prop where
  grid : Grid H st 5 v cells (B.map byV)
  pk : Packed z q L B
section
variable {H : Nat → Option Obj} {st : TypeId} {z q : Nat} {L B : List (List UInt8)} {v : Value} {cells : List Value}
theorem ColIn.len (h : ColIn H st z q L B v cells) : cells.length = B.length := by rw [h.grid.len, List.length_map]
theorem ColIn.slice (h : ColIn H st z q L B v cells) : ∃ ad cap, v = .slice ad B.length cap := by
  rcases h.grid with ⟨db, hd, G⟩ | ⟨rfl, rfl, hb⟩
  · obtain ⟨len, cap, arr, fr, rfl, h2, _⟩ := hd
    rw [h.len] at h2
    have e : len = B.length := by omega
    rw [e]; exact ⟨_, _, rfl⟩
  · have : B.length = 0 := by rw [← List.length_map (f := byV), hb]; rfl
    rw [this]; exact ⟨none, 0, rfl⟩
/-- where a row lies -/
theorem ColIn.place (h : ColIn H st z q L B v cells) {p : Nat} (hp : p < B.length) : ∃ (db cap : Nat) (arr : Array Value) (fr : Nat × Nat) (b cap2 : Nat) (arr2 : Array Value) (fr2 : Nat × Nat) (sp : List Value),
    v = .slice (some ⟨db, 0, none⟩) B.length cap ∧ H db = some (.cells arr st fr) ∧ arr[p]? = some (.slice (some ⟨b, 0, none⟩) (16 * z) cap2) ∧ 16 * z ≤ cap2 ∧ H b = some (.cells arr2 5 fr2) ∧ arr2.toList = byV (B.getD p []) ++ sp := by
  obtain ⟨db, hd, G⟩ := h.grid.real (fun e => by
    have : B.length = 0 := by rw [← List.length_map (f := byV), e]; rfl
    omega)
  obtain ⟨len, cap, arr, fr, rfl, h2, h3, h4, h5, spd, h6⟩ := hd
  rw [h.len] at h2
  have e : len = B.length := by omega
  subst e
  obtain ⟨c, hc⟩ : ∃ c, cells[p]? = some c := ⟨_, List.getElem?_eq_getElem (by rw [h.len]; exact hp)⟩
  obtain ⟨b, hb⟩ := G.at_ p c (byV (B.getD p [])) (by simp) hc (by rw [List.getElem?_map, getD_at (d := []) hp]; rfl)
  obtain ⟨len2, cap2, arr2, fr2, rfl, g2, g3, g4, g5, sp, g6⟩ := hb
  rw [byV_len, h.pk.len_at hp] at g2
  have e : len2 = 16 * z := by omega
  subst e
  refine ⟨db, cap, arr, fr, b, cap2, arr2, fr2, sp, rfl, h5, ?_, g3, (cutM_some g5).2, g6⟩
  rw [← Array.getElem?_toList, h6, List.getElem?_append_left (List.getElem?_eq_some_iff.1 hc).1]; exact hc
theorem chunk_read {arr : Array Value} {ch : List UInt8} {sp : List Value} {p z : Nat} (h : arr.toList = byV ch ++ sp) (hp : p + z ≤ ch.length) : p + z ≤ arr.size ∧ (arr.toList.drop p).take z = byV ((ch.drop p).take z) := by
  have hl : p + z ≤ (byV ch).length := by rw [byV_len]; exact hp
  refine ⟨by rw [← Array.length_toList, h, List.length_append]; omega, ?_⟩
  rw [h, List.drop_append_of_le_length (by omega), List.take_append_of_le_length (by rw [List.length_drop]; omega)]
  unfold byV
  rw [List.map_take, List.map_drop]
end
end Go.Lg.Col
namespace Go.Proofs.Ytdlilapjijpghaa
open Go Go.Lg Go.Lg.Col
set_option maxRecDepth 100000
def stV (z q n : Nat) (v : Value) : List Value := [.int .i64 (z : Nat), .int .i64 (q : Nat), .int .i64 (n : Nat), v]
/-- a column -/
def colR (z q : Nat) (L : List (List UInt8)) : Rsc := ⟨fun ρ H => ρ.2 = 4 ∧ ∃ (fr : Nat × Nat) (v : Value) (cells : List Value) (B : List (List UInt8)),
  H ρ.1 = some (.cells (stV z q L.length v).toArray 56 fr) ∧ ColIn (cutM H ρ.1) 51 z q L B v cells⟩
abbrev cB (k size cap : Nat) (L : List (List UInt8)) : Nat × Option Box := (k, some ⟨0, [], .res (colR size cap L)⟩)
theorem root_ok (z q : Nat) (L : List (List UInt8)) : ∀ ρ H, (colR z q L).holds ρ H → ∃ vals el fr, H ρ.1 = some (.cells vals el fr) ∧ vals.size = ρ.2 := fun ρ H h => by
  obtain ⟨h1, fr, v, cells, B, h2, _⟩ := h
  exact ⟨_, _, fr, h2, by rw [h1]; rfl⟩
/-- a column's first block -/
abbrev sB (k z q n : Nat) (v : CV) : Nat × Option Box := (k, some ⟨56, [.val (.int .i64 (z : Nat)), .val (.int .i64 (q : Nat)), .val (.int .i64 (n : Nat)), v], false⟩)
/-- a chunk is open -/
abbrev oBr (z q m p : Nat) (cells : List Value) (ch : List UInt8) (r : Bool) : List (Nat × Option Box) :=
  [sB 1000000 z q m (.slc 900001 0 cells.length), (900001, some ⟨51, (cells.take p).map .val ++ .slc 900002 0 ch.length :: (cells.drop (p + 1)).map .val, true⟩), (900002, some ⟨5, ch.map bc, r⟩)]
abbrev oB (z q m p : Nat) (cells : List Value) (ch : List UInt8) : List (Nat × Option Box) := oBr z q m p cells ch true
section
variable {P : Program} {n : Nat} {C : Ctx} {c : Code} {Q : Exit → St → Prop} {X : Nat → Option Obj} {s : List (Nat × LV)} {bx : List (Nat × Option Box)} {k : Nat}
theorem col_open {z q : Nat} {L : List (List UInt8)}
    (h : ∀ (H : Nat → Option Obj) (v : Value) (cells : List Value) (B : List (List UInt8)), OwnedM C X H → ColIn H 51 z q L B v cells → LWP P n C c Q ⟨s, sB k z q L.length (.val v) :: bx, joinM X H⟩) :
    LWP P n C c Q ⟨s, cB k z q L :: bx, X⟩ := by
  refine LWP.openRes (root_ok z q L) fun ρ H vals el fr hR hv hO => ?_
  obtain ⟨h1, fr', v, cells, B, h2, h3⟩ := hR
  rw [hv] at h2
  simp only [Option.some.injEq, Obj.cells.injEq] at h2
  obtain ⟨rfl, rfl, rfl⟩ := h2
  exact h (cutM H ρ.1) v cells B (hO.cut _) h3
theorem col_shut {Mid : St → Prop} {z q : Nat} {L B : List (List UInt8)} {H : Nat → Option Obj} {v : Value} {cells : List Value} (hO : OwnedM C X H) (hI : ColIn H 51 z q L B v cells)
    (h : Leads n C Mid ⟨s, cB k z q L :: bx, X⟩) : Leads n C Mid ⟨s, sB k z q L.length (.val v) :: bx, joinM X H⟩ := by
  refine Leads.closeRes (vals := stV z q L.length v) hO (fun ρ fr h1 h2 h3 => ?_) h
  refine ⟨h3, fr, v, cells, B, withBlock_at _ _ _, ?_⟩
  rw [cut_with h1]; exact hI
/-- a chunk is opened -/
theorem chunk_open {z q m p : Nat} {L B : List (List UInt8)} {H : Nat → Option Obj} {v : Value} {cells : List Value} (hO : OwnedM C X H) (hI : ColIn H 51 z q L B v cells) (hp : p < B.length)
    (hs2 : ∀ v, s.all (fun p => p.2.inUse [sB 1000000 z q m (.val v)]) = true) (hs3 : ∀ nc b, s.all (fun p => p.2.inUse [(900001, b), sB 1000000 z q m (.slc 900001 0 nc)]) = true)
    (h : ∀ (H0 : Nat → Option Obj), OwnedM C X H0 → Cells H0 5 [p] cells (B.map byV) → (∀ (j : Nat) (c : Value), j ≠ p → cells[j]? = some c → ∃ (b cap : Nat) (arr : Array Value) (fr : Nat × Nat) (sp : List Value), c = .slice (some ⟨b, 0, none⟩) (16 * z) cap ∧ 16 * z ≤ cap ∧ H0 b = some (.cells arr 5 fr) ∧ arr.toList = byV (B.getD j []) ++ sp) →
      LWP P n C c Q ⟨s, oB z q m p cells (B.getD p []), joinM X H0⟩) :
    LWP P n C c Q ⟨s, [sB 1000000 z q m (.val v)], joinM X H⟩ := by
  obtain ⟨db, hd, G⟩ := hI.grid.real (fun e => by
    have : B.length = 0 := by rw [← List.length_map (f := byV), e]; rfl
    omega)
  have hcl : cells.length = B.length := hI.len
  obtain ⟨cell, hcell⟩ : ∃ c, cells[p]? = some c := ⟨_, List.getElem?_eq_getElem (by omega)⟩
  obtain ⟨b, hb⟩ := G.at_ _ _ _ (by simp) hcell (by rw [List.getElem?_map, getD_at (d := []) hp]; rfl)
  have G2 := G.openAt (p := p) (by simp) hcell hb.blk
  have hO2 := (hO.cut db).cut b
  refine LWP.openCell (A := [.val (.int .i64 (z : Nat)), .val (.int .i64 (q : Nat)), .val (.int .i64 (m : Nat))]) (B := []) (k := 900001) (sz := 1) (len := cells.length) hO hd (by omega) (by omega) (hs2 v) rfl rfl rfl rfl ?_
  have hmid : cells.map CV.val = (cells.take p).map .val ++ .val cell :: (cells.drop (p + 1)).map .val := by
    conv => lhs; rw [mid_of hcell]
    simp
  refine LWP.le (σ' := ⟨s, [(900001, some ⟨51, (cells.take p).map .val ++ .val cell :: (cells.drop (p + 1)).map .val, true⟩), sB 1000000 z q m (.slc 900001 0 cells.length)], joinM X (cutM H db)⟩) ?_ ?_
  · rw [← hmid]
    exact Le.same ⟨fun _ => rfl, fun j => look_swap rfl, rfl⟩
  refine LWP.openCell (k := 900002) (sz := 1) (len := (B.getD p []).length) (hO.cut db) hb (by rw [byV_len]; omega) (by omega) (hs3 _ _) (by exact (by repeat' (first | refine all_cons_true ?_ ?_ | rfl | exact bytes_inUse | exact vals_inUse | exact mid_inUse rfl))) rfl rfl rfl ?_
  rw [byV_bc]
  refine LWP.le (σ' := ⟨s, oB z q m p cells (B.getD p []), joinM X (cutM (cutM H db) b)⟩) ?_ (h _ hO2 G2 (fun j c hj hc => ?_))
  · exact Le.same ⟨fun _ => rfl, fun j => look_rot rfl rfl, rfl⟩
  · have hjl : j < B.length := by rw [← hcl]; exact (List.getElem?_eq_some_iff.1 hc).1
    obtain ⟨b', len', cap', arr, fr, rfl, g2, g3, g4, g5, sp, g6⟩ := G2.at_ j c (byV (B.getD j [])) (by simpa using hj) hc (by rw [List.getElem?_map, getD_at (d := []) hjl]; rfl)
    rw [byV_len, hI.pk.len_at hjl] at g2
    have e : len' = 16 * z := by omega
    subst e
    exact ⟨b', cap', arr, fr, sp, rfl, g3, g5, g6⟩
/-- a chunk is shut: the column's first block knows its chunks again -/
theorem chunk_shut {Mid : St → Prop} {r : Bool} {z q m p : Nat} {H0 : Nat → Option Obj} {cells : List Value} {ch : List UInt8} {B : List (List UInt8)} (hp : p < cells.length) (hO : OwnedM C X H0) (G : Cells H0 5 [p] cells (B.map byV))
    (hs : s.all (fun p => p.2.inUse [(900001, none), sB 1000000 z q m (.slc 900001 0 cells.length)]) = true) (hs2 : s.all (fun p => p.2.inUse [(1000000, none)]) = true)
    (h : ∀ (H : Nat → Option Obj) (v : Value) (cells : List Value), OwnedM C X H → Grid H 51 5 v cells ((B.set p ch).map byV) → Leads n C Mid ⟨s, [sB 1000000 z q m (.val v)], joinM X H⟩) : Leads n C Mid ⟨s, oBr z q m p cells ch r, joinM X H0⟩ := by
  refine Leads.le (σ' := ⟨s, [(900001, some ⟨51, (cells.take p).map .val ++ .slc 900002 0 ch.length :: (cells.drop (p + 1)).map .val, true⟩), (900002, some ⟨5, (byV ch).map .val, r⟩), sB 1000000 z q m (.slc 900001 0 cells.length)], joinM X H0⟩) ?_ ?_
  · rw [byV_bc]
    exact Le.same ⟨fun _ => rfl, fun j => (look_rot rfl rfl).symm, rfl⟩
  refine Leads.closeCell hO (by rw [byV_len]; omega) hs vals_inUse vals_inUse (by exact (by repeat' (first | refine all_cons_true ?_ ?_ | rfl | exact bytes_inUse | exact vals_inUse | exact mid_inUse rfl))) rfl rfl fun b1 o1 v1 h1 _ hO3 hv1 => ?_
  have G3 := G.shutAt hp h1 hv1
  have hset : (cells.take p).map CV.val ++ .val v1 :: (cells.drop (p + 1)).map .val = (cells.set p v1).map .val := by
    rw [List.set_eq_take_append_cons_drop, if_pos (by omega)]; simp
  rw [hset]
  refine Leads.le (σ' := ⟨s, [(1000000, some ⟨56, [.val (.int .i64 (z : Nat)), .val (.int .i64 (q : Nat)), .val (.int .i64 (m : Nat))] ++ .slc 900001 0 cells.length :: [], false⟩), (900001, some ⟨51, (cells.set p v1).map .val, true⟩)], joinM X (withBlock H0 b1 o1)⟩) ?_ ?_
  · exact Le.same ⟨fun _ => rfl, fun j => look_swap rfl, rfl⟩
  refine Leads.closeCell hO3 (by rw [List.length_set]; omega) hs2 rfl rfl rfl rfl rfl fun d1 o2 v2 h2 _ hO4 hv2 => ?_
  refine h _ v2 (cells.set p v1) hO4 ?_
  rw [List.map_set]
  exact Grid.shut G3 h2 hv2
end
end Go.Proofs.Ytdlilapjijpghaa
end
section
-- package column as it landed: what changes nothing
namespace Go.Proofs.Ytdlilapjijpghaa
open Go Go.Lg Go.Lg.Col
set_option maxRecDepth 100000
variable (X : Nat → Option Obj)
theorem seek_nil (i : Int) : PSpec Try.prog X 23 [L0, Ln .i64 i] (Ln .i64 2) := by
  refine PSpec.intro Try.func23 rfl (by kernel_rfl) rfl rfl ?_
  intro C
  (refine LWP.seq <| LWP.region (by kernel_rfl) <| kas rfl <| RunK.nil <| LWP.seq <| LWP.seq <| LWP.region (by kernel_rfl) <| kmv rfl <| K.nilNil rfl (by kernel_rfl) (.inl ⟨rfl, rfl⟩) .plain <| RunK.nil <| LWP.condT rfl ?_; refine LWP.seq <| LWP.region (by kernel_rfl) <| kas rfl <| RunK.nil <| LWP.ret ?_)
  exact ⟨[_], ⟨rfl, trivial⟩, rfl⟩
theorem seek_no (z q m : Nat) (v : Value) (i : Int) (h : i < 0 ∨ (m : Int) ≤ i) : MSpec Try.prog X 23 [Lp 1000000, Ln .i64 i] [sB 1000000 z q m (.val v)] (Ln .i64 3) [sB 1000000 z q m (.val v)] := by
  refine MSpec.intro Try.func23 rfl (by kernel_rfl) rfl rfl (by exact (by repeat' (first | refine all_cons_true ?_ ?_ | rfl | exact bytes_inUse | exact vals_inUse | exact mid_inUse rfl))) rfl rfl ?_
  intro C
  by_cases h0 : i < 0
  · (refine LWP.seq <| LWP.region (by kernel_rfl) <| kas rfl <| RunK.nil <| LWP.seq <| LWP.seq <| LWP.region (by kernel_rfl) <| kmv rfl <| K.ptrNil rfl (by kernel_rfl) (.inl ⟨rfl, rfl⟩) .plain <| RunK.nil <| LWP.condF rfl ?_; refine LWP.skip ?_; refine LWP.seq <| LWP.seq <| LWP.region (by kernel_rfl) <| kmv rfl <| klt rfl rfl (decide_eq_true h0) <| kmv rfl <| RunK.passed rfl rfl rfl <| RunK.passed rfl rfl rfl <| RunK.passed rfl rfl rfl <| RunK.passed rfl rfl rfl <| RunK.passed rfl rfl rfl <| RunK.passed rfl rfl rfl <| kpt rfl rfl <| RunK.nil ?_; refine LWP.condT rfl ?_; refine LWP.seq <| LWP.region (by kernel_rfl) <| kas rfl <| RunK.nil <| LWP.ret ?_)
    exact ⟨[], ⟨[_], ⟨rfl, trivial⟩, rfl⟩, (by repeat' (first | exact trivial | refine And.intro ⟨_, rfl, ?_⟩ ?_ | refine And.intro ⟨_, rfl⟩ ?_ | rfl | exact Box.ren_bytes _ _ _ _ | exact Box.ren_vals _ _ _ _ | exact Box.ren_mid rfl)), rfl, rfl⟩
  · have h1 : (m : Int) ≤ i := by omega
    (refine LWP.seq <| LWP.region (by kernel_rfl) <| kas rfl <| RunK.nil <| LWP.seq <| LWP.seq <| LWP.region (by kernel_rfl) <| kmv rfl <| K.ptrNil rfl (by kernel_rfl) (.inl ⟨rfl, rfl⟩) .plain <| RunK.nil <| LWP.condF rfl ?_; refine LWP.skip ?_; refine LWP.seq <| LWP.seq <| LWP.region (by kernel_rfl) <| kmv rfl <| klt rfl rfl (decide_eq_false h0) <| kmv rfl <| gmv rfl rfl rfl <| gmv rfl rfl rfl <| K.nilCheck rfl (.taken rfl rfl) ?_; refine K.fieldAddr rfl rfl (.taken rfl rfl) ?_; refine K.loadOne rfl rfl rfl (.taken rfl rfl) ?_; refine K.geq rfl rfl (decide_eq_true h1) (.taken rfl rfl) ?_; refine kpf rfl rfl <| RunK.nil <| LWP.condT rfl ?_; refine LWP.seq <| LWP.region (by kernel_rfl) <| kas rfl <| RunK.nil <| LWP.ret ?_)
    exact ⟨[], ⟨[_], ⟨rfl, trivial⟩, rfl⟩, (by repeat' (first | exact trivial | refine And.intro ⟨_, rfl, ?_⟩ ?_ | refine And.intro ⟨_, rfl⟩ ?_ | rfl | exact Box.ren_bytes _ _ _ _ | exact Box.ren_vals _ _ _ _ | exact Box.ren_mid rfl)), rfl, rfl⟩
theorem seek_ok (z q m : Nat) (v : Value) (i : Nat) (h : i < m) : MSpec Try.prog X 23 [Lp 1000000, Ln .i64 (i : Nat)] [sB 1000000 z q m (.val v)] (Ln .i64 0) [sB 1000000 z q m (.val v)] := by
  refine MSpec.intro Try.func23 rfl (by kernel_rfl) rfl rfl (by exact (by repeat' (first | refine all_cons_true ?_ ?_ | rfl | exact bytes_inUse | exact vals_inUse | exact mid_inUse rfl))) rfl rfl ?_
  intro C
  (refine LWP.seq <| LWP.region (by kernel_rfl) <| kas rfl <| RunK.nil <| LWP.seq <| LWP.seq <| LWP.region (by kernel_rfl) <| kmv rfl <| K.ptrNil rfl (by kernel_rfl) (.inl ⟨rfl, rfl⟩) .plain <| RunK.nil <| LWP.condF rfl ?_; refine LWP.skip ?_; refine LWP.seq <| LWP.seq <| LWP.region (by kernel_rfl) <| kmv rfl <| klt rfl rfl (decide_eq_false (by omega)) <| kmv rfl <| gmv rfl rfl rfl <| gmv rfl rfl rfl <| K.nilCheck rfl (.taken rfl rfl) ?_; refine K.fieldAddr rfl rfl (.taken rfl rfl) ?_; refine K.loadOne rfl rfl rfl (.taken rfl rfl) ?_; refine K.geq rfl rfl (decide_eq_false (by omega)) (.taken rfl rfl) ?_; refine kpf rfl rfl <| RunK.nil <| LWP.condF rfl ?_; refine LWP.skip ?_; refine LWP.seq <| LWP.region (by kernel_rfl) <| kas rfl <| RunK.nil <| LWP.ret ?_)
  exact ⟨[], ⟨[_], ⟨rfl, trivial⟩, rfl⟩, (by repeat' (first | exact trivial | refine And.intro ⟨_, rfl, ?_⟩ ?_ | refine And.intro ⟨_, rfl⟩ ?_ | rfl | exact Box.ren_bytes _ _ _ _ | exact Box.ren_vals _ _ _ _ | exact Box.ren_mid rfl)), rfl, rfl⟩
theorem h0_of {p z cl : Nat} (i : Nat) (hp : i % 16 * z = p) (h : p + z ≤ cl) : p < cl ∨ p = 0 := by
  rcases Nat.eq_zero_or_pos z with h0 | h0
  · right; rw [← hp, h0, Nat.mul_zero]
  · left; omega
/-- a row's place, in memory that stays -/
theorem at_X (z q m i : Nat) {db nc ccap b cl cap : Nat} {arr : Array Value} {fr : Nat × Nat} (hz : z ≤ 256) (hi : i < 65536) (hin : i / 16 < nc) (hX : X db = some (.cells arr 51 fr)) (hc : arr[i / 16]? = some (.slice (some ⟨b, 0, none⟩) cl cap)) (hlen : i % 16 * z + z ≤ cl) (hcap : cl ≤ cap) :
    MSpec Try.prog X 24 [Lp 1000000, Ln .i64 (i : Nat)] [sB 1000000 z q m (.val (.slice (some ⟨db, 0, none⟩) nc ccap))] (.sv (.one (.val (.slice (some ⟨b, i % 16 * z, none⟩) z (cap - i % 16 * z)))))
      [sB 1000000 z q m (.val (.slice (some ⟨db, 0, none⟩) nc ccap))] := by
  refine MSpec.intro Try.func24 rfl (by kernel_rfl) rfl rfl (by exact (by repeat' (first | refine all_cons_true ?_ ?_ | rfl | exact bytes_inUse | exact vals_inUse | exact mid_inUse rfl))) rfl rfl ?_
  intro C
  have h1 : ((i : Nat) : Int).tmod 16 = ((i % 16 : Nat) : Int) := by rw [Int.tmod_eq_emod_of_nonneg (by omega)]; omega
  have h16 : i % 16 * z ≤ 15 * 256 := Nat.mul_le_mul (by omega) hz
  have h2 : IntKind.i64.wrap (((i % 16 : Nat) : Int) * (z : Nat)) = ((i % 16 * z : Nat) : Int) := by rw [← Int.natCast_mul, wrap_i64 (by omega)]
  have h3 : IntKind.i64.wrap (((i : Nat) : Int).tdiv 16) = ((i / 16 : Nat) : Int) := by rw [quo_i64 (by omega) (by omega)]; omega
  have h4 : IntKind.i64.wrap (((i % 16 * z : Nat) : Int) + (z : Nat)) = ((i % 16 * z + z : Nat) : Int) := by rw [wrap_i64 (by omega)]; omega
  have hix : 0 + Int.toNat ((i / 16 : Nat) : Int) * 1 = i / 16 := by rw [Int.toNat_natCast]; omega
  have h0 := h0_of (cl := cl) i rfl hlen
  generalize hp : i % 16 * z = p at *
  (refine LWP.seq <| LWP.region (by kernel_rfl) <| kas rfl <| RunK.nil <| LWP.seq <| LWP.region (by kernel_rfl) <| kmv rfl <| K.rem rfl rfl (by decide) h1 .plain <| kmv rfl <| K.nilCheck rfl .plain <| kfa rfl rfl ?_; refine kl1 rfl rfl rfl <| K.mul rfl rfl h2 .plain <| kas rfl <| RunK.nil <| LWP.seq <| LWP.draws mixed (by kernel_rfl) <| kmv rfl <| K.nilCheck rfl .plain <| kfa rfl rfl ?_; refine kl1 rfl rfl rfl <| kmv rfl <| K.quo rfl rfl (by decide) h3 .plain <| K.indexX rfl rfl SliceT.h (by omega) hix .plain <| K.loadX rfl hX rfl hc .plain <| kmv rfl <| kmv rfl <| kmv rfl <| K.nilCheck rfl .plain <| kfa rfl rfl ?_; refine kl1 rfl rfl rfl <| kad rfl rfl h4 <| K.cut2X (sz := 1) (l := p) (h := p + z) (off' := p) (len' := z) (cap' := cap - p) rfl rfl rfl (by kernel_rfl) (by omega) (by omega) h0 hcap (by omega) (by omega) rfl .plain ?_; refine kas rfl <| RunK.nil <| And.intro (by kernel_rfl) ?_; refine LWP.ret ?_)
  exact ⟨[], ⟨[_], ⟨rfl, trivial⟩, rfl⟩, (by repeat' (first | exact trivial | refine And.intro ⟨_, rfl, ?_⟩ ?_ | refine And.intro ⟨_, rfl⟩ ?_ | rfl | exact Box.ren_bytes _ _ _ _ | exact Box.ren_vals _ _ _ _ | exact Box.ren_mid rfl)), rfl, rfl⟩
/-- a row's place, in a chunk that is open -/
theorem at_B (z q m : Nat) (l : List UInt8) (i : Nat) (nc cl : Nat) (A B : List Value) (r1 r2 : Bool) (hz : z ≤ 256) (hi : i < 65536) (hA : A.length = i / 16) (hin : i / 16 < nc) (hlen : i % 16 * z + z ≤ cl) :
    MSpec Try.prog X 24 [Lp 1000000, Ln .i64 (i : Nat)] [sB 1000000 z q m (.slc 1000001 0 nc), (1000001, some ⟨51, A.map .val ++ .slc 1000002 0 cl :: B.map .val, r1⟩), (1000002, some ⟨5, l.map bc, r2⟩)] (.sv (.one (.slc 1000002 (i % 16 * z) z)))
      [sB 1000000 z q m (.slc 1000001 0 nc), (1000001, some ⟨51, A.map .val ++ .slc 1000002 0 cl :: B.map .val, r1⟩), (1000002, some ⟨5, l.map bc, r2⟩)] := by
  refine MSpec.intro Try.func24 rfl (by kernel_rfl) rfl rfl (by exact (by repeat' (first | refine all_cons_true ?_ ?_ | rfl | exact bytes_inUse | exact vals_inUse | exact mid_inUse rfl))) rfl rfl ?_
  intro C
  have h1 : ((i : Nat) : Int).tmod 16 = ((i % 16 : Nat) : Int) := by rw [Int.tmod_eq_emod_of_nonneg (by omega)]; omega
  have h16 : i % 16 * z ≤ 15 * 256 := Nat.mul_le_mul (by omega) hz
  have h2 : IntKind.i64.wrap (((i % 16 : Nat) : Int) * (z : Nat)) = ((i % 16 * z : Nat) : Int) := by rw [← Int.natCast_mul, wrap_i64 (by omega)]
  have h3 : IntKind.i64.wrap (((i : Nat) : Int).tdiv 16) = ((i / 16 : Nat) : Int) := by rw [quo_i64 (by omega) (by omega)]; omega
  have h4 : IntKind.i64.wrap (((i % 16 * z : Nat) : Int) + (z : Nat)) = ((i % 16 * z + z : Nat) : Int) := by rw [wrap_i64 (by omega)]; omega
  have hix : 0 + Int.toNat ((i / 16 : Nat) : Int) * 1 = i / 16 := by rw [Int.toNat_natCast]; omega
  have hcell : (A.map CV.val ++ .slc 1000002 0 cl :: B.map CV.val)[i / 16]? = some (.slc 1000002 0 cl) := mid_get (by rw [List.length_map]; exact hA)
  have h0 := h0_of (cl := cl) i rfl hlen
  generalize hp : i % 16 * z = p at *
  (refine LWP.seq <| LWP.region (by kernel_rfl) <| kas rfl <| RunK.nil <| LWP.seq <| LWP.region (by kernel_rfl) <| kmv rfl <| K.rem rfl rfl (by decide) h1 .plain <| kmv rfl <| K.nilCheck rfl .plain <| kfa rfl rfl ?_; refine kl1 rfl rfl rfl <| K.mul rfl rfl h2 .plain <| kas rfl <| RunK.nil <| LWP.seq <| LWP.draws mixed (by kernel_rfl) <| kmv rfl <| K.nilCheck rfl .plain <| kfa rfl rfl ?_; refine kl1 rfl rfl rfl <| kmv rfl <| K.quo rfl rfl (by decide) h3 .plain <| K.indexSlc rfl rfl (by omega) hix .plain ?_; refine kl1 rfl rfl hcell <| kmv rfl <| kmv rfl <| kmv rfl <| K.nilCheck rfl .plain <| kfa rfl rfl ?_; refine kl1 rfl rfl rfl <| kad rfl rfl h4 <| K.cut2Slc (l := p) (h := p + z) (off' := p) (len' := z) rfl rfl rfl (by kernel_rfl) (by omega) (by omega) h0 (by omega) (by omega) .plain ?_; refine kas rfl <| RunK.nil <| And.intro (by kernel_rfl) ?_; refine LWP.ret ?_)
  exact ⟨[], ⟨[_], ⟨rfl, trivial⟩, rfl⟩, (by repeat' (first | exact trivial | refine And.intro ⟨_, rfl, ?_⟩ ?_ | refine And.intro ⟨_, rfl⟩ ?_ | rfl | exact Box.ren_bytes _ _ _ _ | exact Box.ren_vals _ _ _ _ | exact Box.ren_mid rfl)), rfl, rfl⟩
/-- a row's place in another chunk than the one that is open -/
theorem at_V (z q m : Nat) (l : List UInt8) (i : Nat) (nc cl cl2 b cap : Nat) (A B : List Value) (r1 r2 : Bool) (hz : z ≤ 256) (hi : i < 65536) (hin : i / 16 < nc) (hlen : i % 16 * z + z ≤ cl) (hcap : cl ≤ cap) (hcell : (A.map CV.val ++ .slc 1000002 0 cl2 :: B.map CV.val)[i / 16]? = some (.val (.slice (some ⟨b, 0, none⟩) cl cap))) :
    MSpec Try.prog X 24 [Lp 1000000, Ln .i64 (i : Nat)] [sB 1000000 z q m (.slc 1000001 0 nc), (1000001, some ⟨51, A.map .val ++ .slc 1000002 0 cl2 :: B.map .val, r1⟩), (1000002, some ⟨5, l.map bc, r2⟩)] (.sv (.one (.val (.slice (some ⟨b, i % 16 * z, none⟩) z (cap - i % 16 * z)))))
      [sB 1000000 z q m (.slc 1000001 0 nc), (1000001, some ⟨51, A.map .val ++ .slc 1000002 0 cl2 :: B.map .val, r1⟩), (1000002, some ⟨5, l.map bc, r2⟩)] := by
  refine MSpec.intro Try.func24 rfl (by kernel_rfl) rfl rfl (by exact (by repeat' (first | refine all_cons_true ?_ ?_ | rfl | exact bytes_inUse | exact vals_inUse | exact mid_inUse rfl))) rfl rfl ?_
  intro C
  have h1 : ((i : Nat) : Int).tmod 16 = ((i % 16 : Nat) : Int) := by rw [Int.tmod_eq_emod_of_nonneg (by omega)]; omega
  have h16 : i % 16 * z ≤ 15 * 256 := Nat.mul_le_mul (by omega) hz
  have h2 : IntKind.i64.wrap (((i % 16 : Nat) : Int) * (z : Nat)) = ((i % 16 * z : Nat) : Int) := by rw [← Int.natCast_mul, wrap_i64 (by omega)]
  have h3 : IntKind.i64.wrap (((i : Nat) : Int).tdiv 16) = ((i / 16 : Nat) : Int) := by rw [quo_i64 (by omega) (by omega)]; omega
  have h4 : IntKind.i64.wrap (((i % 16 * z : Nat) : Int) + (z : Nat)) = ((i % 16 * z + z : Nat) : Int) := by rw [wrap_i64 (by omega)]; omega
  have hix : 0 + Int.toNat ((i / 16 : Nat) : Int) * 1 = i / 16 := by rw [Int.toNat_natCast]; omega
  have h0 := h0_of (cl := cl) i rfl hlen
  generalize hp : i % 16 * z = p at *
  (refine LWP.seq <| LWP.region (by kernel_rfl) <| kas rfl <| RunK.nil <| LWP.seq <| LWP.region (by kernel_rfl) <| kmv rfl <| K.rem rfl rfl (by decide) h1 .plain <| kmv rfl <| K.nilCheck rfl .plain <| kfa rfl rfl ?_; refine kl1 rfl rfl rfl <| K.mul rfl rfl h2 .plain <| kas rfl <| RunK.nil <| LWP.seq <| LWP.draws mixed (by kernel_rfl) <| kmv rfl <| K.nilCheck rfl .plain <| kfa rfl rfl ?_; refine kl1 rfl rfl rfl <| kmv rfl <| K.quo rfl rfl (by decide) h3 .plain <| K.indexSlc rfl rfl (by omega) hix .plain ?_; refine kl1 rfl rfl hcell <| kmv rfl <| kmv rfl <| kmv rfl <| K.nilCheck rfl .plain <| kfa rfl rfl ?_; refine kl1 rfl rfl rfl <| kad rfl rfl h4 <| K.cut2X (sz := 1) (l := p) (h := p + z) (off' := p) (len' := z) (cap' := cap - p) rfl rfl rfl (by kernel_rfl) (by omega) (by omega) h0 hcap (by omega) (by omega) rfl .plain ?_; refine kas rfl <| RunK.nil <| And.intro (by kernel_rfl) ?_; refine LWP.ret ?_)
  exact ⟨[], ⟨[_], ⟨rfl, trivial⟩, rfl⟩, (by repeat' (first | exact trivial | refine And.intro ⟨_, rfl, ?_⟩ ?_ | refine And.intro ⟨_, rfl⟩ ?_ | rfl | exact Box.ren_bytes _ _ _ _ | exact Box.ren_vals _ _ _ _ | exact Box.ren_mid rfl)), rfl, rfl⟩
theorem cLen_spec (size cap : Nat) (L : List (List UInt8)) : MSpec Try.prog X 12 [Lp 1000000] [cB 1000000 size cap L] (Ln .i64 (L.length : Nat)) [cB 1000000 size cap L] := by
  refine MSpec.intro Try.func12 rfl (by kernel_rfl) rfl rfl (by exact (by repeat' (first | refine all_cons_true ?_ ?_ | rfl | exact bytes_inUse | exact vals_inUse | exact mid_inUse rfl))) rfl rfl ?_
  intro C
  refine LWP.ends (col_open fun H v cells B hO hI => ?_)
  (refine LWP.seq <| LWP.region (by kernel_rfl) <| kas rfl <| RunK.nil <| LWP.seq <| LWP.seq <| LWP.region (by kernel_rfl) <| kmv rfl <| K.ptrNil rfl (by kernel_rfl) (.inl ⟨rfl, rfl⟩) .plain <| RunK.nil <| LWP.condF rfl ?_; refine LWP.skip ?_; refine LWP.seq <| LWP.region (by kernel_rfl) <| kmv rfl <| K.nilCheck rfl .plain <| kfa rfl rfl ?_; refine kl1 rfl rfl rfl <| kas rfl <| RunK.nil <| LWP.ret ?_)
  refine col_shut hO hI (Leads.done ?_)
  exact ⟨[], ⟨[_], ⟨rfl, trivial⟩, rfl⟩, (by repeat' (first | exact trivial | refine And.intro ⟨_, rfl, ?_⟩ ?_ | refine And.intro ⟨_, rfl⟩ ?_ | rfl | exact Box.ren_bytes _ _ _ _ | exact Box.ren_vals _ _ _ _ | exact Box.ren_mid rfl)), rfl, rfl⟩
theorem cSize_spec (size cap : Nat) (L : List (List UInt8)) : MSpec Try.prog X 13 [Lp 1000000] [cB 1000000 size cap L] (Ln .i64 (size : Nat)) [cB 1000000 size cap L] := by
  refine MSpec.intro Try.func13 rfl (by kernel_rfl) rfl rfl (by exact (by repeat' (first | refine all_cons_true ?_ ?_ | rfl | exact bytes_inUse | exact vals_inUse | exact mid_inUse rfl))) rfl rfl ?_
  intro C
  refine LWP.ends (col_open fun H v cells B hO hI => ?_)
  (refine LWP.seq <| LWP.region (by kernel_rfl) <| kas rfl <| RunK.nil <| LWP.seq <| LWP.seq <| LWP.region (by kernel_rfl) <| kmv rfl <| K.ptrNil rfl (by kernel_rfl) (.inl ⟨rfl, rfl⟩) .plain <| RunK.nil <| LWP.condF rfl ?_; refine LWP.skip ?_; refine LWP.seq <| LWP.region (by kernel_rfl) <| kmv rfl <| K.nilCheck rfl .plain <| kfa rfl rfl ?_; refine kl1 rfl rfl rfl <| kas rfl <| RunK.nil <| LWP.ret ?_)
  refine col_shut hO hI (Leads.done ?_)
  exact ⟨[], ⟨[_], ⟨rfl, trivial⟩, rfl⟩, (by repeat' (first | exact trivial | refine And.intro ⟨_, rfl, ?_⟩ ?_ | refine And.intro ⟨_, rfl⟩ ?_ | rfl | exact Box.ren_bytes _ _ _ _ | exact Box.ren_vals _ _ _ _ | exact Box.ren_mid rfl)), rfl, rfl⟩
theorem cCap_spec (size cap : Nat) (L : List (List UInt8)) : MSpec Try.prog X 14 [Lp 1000000] [cB 1000000 size cap L] (Ln .i64 (cap : Nat)) [cB 1000000 size cap L] := by
  refine MSpec.intro Try.func14 rfl (by kernel_rfl) rfl rfl (by exact (by repeat' (first | refine all_cons_true ?_ ?_ | rfl | exact bytes_inUse | exact vals_inUse | exact mid_inUse rfl))) rfl rfl ?_
  intro C
  refine LWP.ends (col_open fun H v cells B hO hI => ?_)
  (refine LWP.seq <| LWP.region (by kernel_rfl) <| kas rfl <| RunK.nil <| LWP.seq <| LWP.seq <| LWP.region (by kernel_rfl) <| kmv rfl <| K.ptrNil rfl (by kernel_rfl) (.inl ⟨rfl, rfl⟩) .plain <| RunK.nil <| LWP.condF rfl ?_; refine LWP.skip ?_; refine LWP.seq <| LWP.region (by kernel_rfl) <| kmv rfl <| K.nilCheck rfl .plain <| kfa rfl rfl ?_; refine kl1 rfl rfl rfl <| kas rfl <| RunK.nil <| LWP.ret ?_)
  refine col_shut hO hI (Leads.done ?_)
  exact ⟨[], ⟨[_], ⟨rfl, trivial⟩, rfl⟩, (by repeat' (first | exact trivial | refine And.intro ⟨_, rfl, ?_⟩ ?_ | refine And.intro ⟨_, rfl⟩ ?_ | rfl | exact Box.ren_bytes _ _ _ _ | exact Box.ren_vals _ _ _ _ | exact Box.ren_mid rfl)), rfl, rfl⟩
theorem cChunks_spec (size cap : Nat) (L : List (List UInt8)) : MSpec Try.prog X 15 [Lp 1000000] [cB 1000000 size cap L] (Ln .i64 ((L.length + 15) / 16 : Nat)) [cB 1000000 size cap L] := by
  refine MSpec.intro Try.func15 rfl (by kernel_rfl) rfl rfl (by exact (by repeat' (first | refine all_cons_true ?_ ?_ | rfl | exact bytes_inUse | exact vals_inUse | exact mid_inUse rfl))) rfl rfl ?_
  intro C
  refine LWP.ends (col_open fun H v cells B hO hI => ?_)
  obtain ⟨ad, ccap, rfl⟩ := hI.slice
  rw [← hI.pk.nb]
  (refine LWP.seq <| LWP.region (by kernel_rfl) <| kas rfl <| RunK.nil <| LWP.seq <| LWP.seq <| LWP.region (by kernel_rfl) <| kmv rfl <| K.ptrNil rfl (by kernel_rfl) (.inl ⟨rfl, rfl⟩) .plain <| RunK.nil <| LWP.condF rfl ?_; refine LWP.skip ?_; refine LWP.seq <| LWP.region (by kernel_rfl) <| kmv rfl <| K.nilCheck rfl .plain <| kfa rfl rfl ?_; refine kl1 rfl rfl rfl <| K.lenX rfl SliceT.h rfl .plain ?_; refine kas rfl <| RunK.nil <| LWP.ret ?_)
  refine col_shut hO hI (Leads.done ?_)
  exact ⟨[], ⟨[_], ⟨rfl, trivial⟩, rfl⟩, (by repeat' (first | exact trivial | refine And.intro ⟨_, rfl, ?_⟩ ?_ | refine And.intro ⟨_, rfl⟩ ?_ | rfl | exact Box.ren_bytes _ _ _ _ | exact Box.ren_vals _ _ _ _ | exact Box.ren_mid rfl)), rfl, rfl⟩
theorem cLen_nil : PSpec Try.prog X 12 [L0] (Ln .i64 0) := by
  refine PSpec.intro Try.func12 rfl (by kernel_rfl) rfl rfl ?_
  intro C
  (refine LWP.seq <| LWP.region (by kernel_rfl) <| kas rfl <| RunK.nil <| LWP.seq <| LWP.seq <| LWP.region (by kernel_rfl) <| kmv rfl <| K.nilNil rfl (by kernel_rfl) (.inl ⟨rfl, rfl⟩) .plain <| RunK.nil <| LWP.condT rfl ?_; refine LWP.seq <| LWP.region (by kernel_rfl) <| kas rfl <| RunK.nil <| LWP.ret ?_)
  exact ⟨[_], ⟨rfl, trivial⟩, rfl⟩
theorem cSize_nil : PSpec Try.prog X 13 [L0] (Ln .i64 0) := by
  refine PSpec.intro Try.func13 rfl (by kernel_rfl) rfl rfl ?_
  intro C
  (refine LWP.seq <| LWP.region (by kernel_rfl) <| kas rfl <| RunK.nil <| LWP.seq <| LWP.seq <| LWP.region (by kernel_rfl) <| kmv rfl <| K.nilNil rfl (by kernel_rfl) (.inl ⟨rfl, rfl⟩) .plain <| RunK.nil <| LWP.condT rfl ?_; refine LWP.seq <| LWP.region (by kernel_rfl) <| kas rfl <| RunK.nil <| LWP.ret ?_)
  exact ⟨[_], ⟨rfl, trivial⟩, rfl⟩
theorem cCap_nil : PSpec Try.prog X 14 [L0] (Ln .i64 0) := by
  refine PSpec.intro Try.func14 rfl (by kernel_rfl) rfl rfl ?_
  intro C
  (refine LWP.seq <| LWP.region (by kernel_rfl) <| kas rfl <| RunK.nil <| LWP.seq <| LWP.seq <| LWP.region (by kernel_rfl) <| kmv rfl <| K.nilNil rfl (by kernel_rfl) (.inl ⟨rfl, rfl⟩) .plain <| RunK.nil <| LWP.condT rfl ?_; refine LWP.seq <| LWP.region (by kernel_rfl) <| kas rfl <| RunK.nil <| LWP.ret ?_)
  exact ⟨[_], ⟨rfl, trivial⟩, rfl⟩
theorem cChunks_nil : PSpec Try.prog X 15 [L0] (Ln .i64 0) := by
  refine PSpec.intro Try.func15 rfl (by kernel_rfl) rfl rfl ?_
  intro C
  (refine LWP.seq <| LWP.region (by kernel_rfl) <| kas rfl <| RunK.nil <| LWP.seq <| LWP.seq <| LWP.region (by kernel_rfl) <| kmv rfl <| K.nilNil rfl (by kernel_rfl) (.inl ⟨rfl, rfl⟩) .plain <| RunK.nil <| LWP.condT rfl ?_; refine LWP.seq <| LWP.region (by kernel_rfl) <| kas rfl <| RunK.nil <| LWP.ret ?_)
  exact ⟨[_], ⟨rfl, trivial⟩, rfl⟩
theorem cClone_nil : PSpec Try.prog X 17 [L0] L0 := by
  refine PSpec.intro Try.func17 rfl (by kernel_rfl) rfl rfl ?_
  intro C
  (refine LWP.seq <| LWP.region (by kernel_rfl) <| kas rfl <| RunK.nil <| LWP.seq <| LWP.seq <| LWP.region (by kernel_rfl) <| kmv rfl <| K.nilNil rfl (by kernel_rfl) (.inl ⟨rfl, rfl⟩) .plain <| RunK.nil <| LWP.condT rfl ?_; refine LWP.seq <| LWP.region (by kernel_rfl) <| kas rfl <| RunK.nil <| LWP.ret ?_)
  exact ⟨[_], ⟨rfl, trivial⟩, rfl⟩
theorem cAppend_nil (row : List UInt8) : PSpec Try.prog X 10 [L0, Ls row] (Ln .i64 2) := by
  refine PSpec.intro Try.func10 rfl (by kernel_rfl) rfl rfl ?_
  intro C
  (refine LWP.seq <| LWP.region (by kernel_rfl) <| kas rfl <| RunK.nil <| LWP.seq <| LWP.block <| LWP.seq <| LWP.region (by kernel_rfl) <| kmv rfl <| K.nilNil rfl (by kernel_rfl) (.inl ⟨rfl, rfl⟩) .plain <| kas rfl <| RunK.nil <| LWP.condT rfl ?_; refine LWP.seq <| LWP.region (by kernel_rfl) <| kas rfl <| RunK.nil <| LWP.ret ?_)
  exact ⟨[_], ⟨rfl, trivial⟩, rfl⟩
theorem cGet_nil (i : Int) : PSpec Try.prog X 8 [L0, Ln .i64 i] (.tup [Ss [], Sn .i64 2]) := by
  refine PSpec.intro Try.func8 rfl (by kernel_rfl) rfl rfl ?_
  intro C
  have hs := seek_nil X i
  (refine LWP.seq <| LWP.region (by kernel_rfl) <| kas rfl <| kas rfl <| RunK.nil <| LWP.seq <| LWP.seq <| LWP.region (by kernel_rfl) <| kmv rfl <| kmv rfl <| kca rfl rfl (hs) <| kas rfl <| RunK.nil <| LWP.seq ?_; refine LWP.region (by kernel_rfl) <| kmv rfl <| kne rfl rfl (bne_iff_ne.2 (by omega)) <| RunK.nil <| LWP.condT rfl ?_; refine LWP.seq <| LWP.region (by kernel_rfl) <| kmv rfl <| kas rfl <| kas rfl <| RunK.nil <| LWP.ret ?_)
  exact ⟨[_, _], ⟨rfl, rfl, trivial⟩, rfl⟩
theorem cSwap_nil (i : Int) : PSpec Try.prog X 9 [L0, Ln .i64 i] (.tup [Sn .i64 0, Sn .i64 2]) := by
  refine PSpec.intro Try.func9 rfl (by kernel_rfl) rfl rfl ?_
  intro C
  have hs := seek_nil X i
  (refine LWP.seq <| LWP.region (by kernel_rfl) <| kas rfl <| kas rfl <| RunK.nil <| LWP.seq <| LWP.seq <| LWP.region (by kernel_rfl) <| kmv rfl <| kmv rfl <| kca rfl rfl (hs) <| kas rfl <| RunK.nil <| LWP.seq ?_; refine LWP.region (by kernel_rfl) <| kmv rfl <| kne rfl rfl (bne_iff_ne.2 (by omega)) <| RunK.nil <| LWP.condT rfl ?_; refine LWP.seq <| LWP.region (by kernel_rfl) <| kmv rfl <| kas rfl <| kas rfl <| RunK.nil <| LWP.ret ?_)
  exact ⟨[_, _], ⟨rfl, rfl, trivial⟩, rfl⟩
theorem cSet_nil (i : Int) (row : List UInt8) : PSpec Try.prog X 11 [L0, Ln .i64 i, Ls row] (Ln .i64 2) := by
  refine PSpec.intro Try.func11 rfl (by kernel_rfl) rfl rfl ?_
  intro C
  have hs := seek_nil X i
  (refine LWP.seq <| LWP.region (by kernel_rfl) <| kas rfl <| RunK.nil <| LWP.seq <| LWP.seq <| LWP.region (by kernel_rfl) <| kmv rfl <| kmv rfl <| kca rfl rfl (hs) <| kas rfl <| RunK.nil <| LWP.seq <| LWP.region (by kernel_rfl) ?_; refine kmv rfl <| kne rfl rfl (bne_iff_ne.2 (by omega)) <| RunK.nil <| LWP.condT rfl ?_; refine LWP.seq <| LWP.region (by kernel_rfl) <| kmv rfl <| kas rfl <| RunK.nil <| LWP.ret ?_)
  exact ⟨[_], ⟨rfl, trivial⟩, rfl⟩
theorem cNew_ok (size cap : Nat) (hs : size ≤ 256) (h1 : 1 ≤ cap) (hc : cap ≤ 65536) : MSpec Try.prog X 7 [Ln .i64 (size : Nat), Ln .i64 (cap : Nat)] [] (Lp 1000001) [cB 1000001 size cap []] := by
  refine MSpec.intro Try.func7 rfl (by kernel_rfl) rfl rfl (by exact (by repeat' (first | refine all_cons_true ?_ ?_ | rfl | exact bytes_inUse | exact vals_inUse | exact mid_inUse rfl))) rfl rfl ?_
  intro C
  refine LWP.ends ?_
  (refine LWP.seq <| LWP.region (by kernel_rfl) <| kas rfl <| RunK.nil <| LWP.seq <| LWP.seq <| LWP.region (by kernel_rfl) <| kmv rfl <| klt rfl rfl (decide_eq_false (by omega)) <| kmv rfl <| gmv rfl rfl rfl <| K.gtr rfl rfl (decide_eq_false (by omega)) (.taken rfl rfl) ?_; refine kpf rfl rfl <| kmv rfl <| gmv rfl rfl rfl <| K.lss rfl rfl (decide_eq_false (by omega)) (.taken rfl rfl) ?_; refine kpf rfl rfl <| kmv rfl <| gmv rfl rfl rfl <| K.gtr rfl rfl (decide_eq_false (by omega)) (.taken rfl rfl) ?_; refine kpf rfl rfl <| RunK.nil <| LWP.condF rfl ?_; refine LWP.skip ?_; refine LWP.seq <| LWP.region (by kernel_rfl) <| kmv rfl <| kmv rfl <| K.build rfl rfl (by exact rfl) (by exact nl4 rfl rfl rfl rfl rfl) .plain ?_; refine K.box rfl rfl rfl .plain <| kas rfl <| RunK.nil <| LWP.ret ?_)
  refine Leads.le (σ' := ⟨[(4, Lp 22)], [sB 22 size cap ([] : List (List UInt8)).length (.val (.slice none 0 0))], joinM X (fun _ => none)⟩) (by rw [joinM_nil]; exact Le.of (by exact ⟨rfl, trivial⟩) (by exact ⟨rfl, trivial⟩) (by exact rfl) (by exact rfl) (by repeat' (first | refine all_cons_true ?_ ?_ | rfl | exact bytes_inUse | exact vals_inUse | exact mid_inUse rfl))) ?_
  refine col_shut (cells := []) (B := []) (OwnedM.nil C X) ⟨Grid.empty _ _ _, Packed.nil ⟨hs, hc⟩⟩ (Leads.done ?_)
  exact ⟨[(1000001, 22)], ⟨[_], ⟨rfl, trivial⟩, rfl⟩, (by repeat' (first | exact trivial | refine And.intro ⟨_, rfl, ?_⟩ ?_ | refine And.intro ⟨_, rfl⟩ ?_ | rfl | exact Box.ren_bytes _ _ _ _ | exact Box.ren_vals _ _ _ _ | exact Box.ren_mid rfl)), rfl, rfl⟩
theorem cNew_no (size cap : Int) (h : size < 0 ∨ 256 < size ∨ cap < 1 ∨ 65536 < cap) : PSpec Try.prog X 7 [Ln .i64 size, Ln .i64 cap] L0 := by
  refine PSpec.intro Try.func7 rfl (by kernel_rfl) rfl rfl ?_
  intro C
  by_cases h1 : size < 0
  · (refine LWP.seq <| LWP.region (by kernel_rfl) <| kas rfl <| RunK.nil <| LWP.seq <| LWP.seq <| LWP.region (by kernel_rfl) <| kmv rfl <| klt rfl rfl (decide_eq_true h1) <| kmv rfl <| RunK.passed rfl rfl rfl <| RunK.passed rfl rfl rfl <| kpt rfl rfl <| kmv rfl ?_; refine RunK.passed rfl rfl rfl <| RunK.passed rfl rfl rfl <| kpt rfl rfl <| kmv rfl <| RunK.passed rfl rfl rfl <| RunK.passed rfl rfl rfl <| kpt rfl rfl <| RunK.nil <| LWP.condT rfl ?_; refine LWP.seq <| LWP.region (by kernel_rfl) <| kas rfl <| RunK.nil <| LWP.ret ?_)
    exact ⟨[_], ⟨rfl, trivial⟩, rfl⟩
  · by_cases h2 : 256 < size
    · (refine LWP.seq <| LWP.region (by kernel_rfl) <| kas rfl <| RunK.nil <| LWP.seq <| LWP.seq <| LWP.region (by kernel_rfl) <| kmv rfl <| klt rfl rfl (decide_eq_false h1) <| kmv rfl <| gmv rfl rfl rfl <| K.gtr rfl rfl (decide_eq_true h2) (.taken rfl rfl) ?_; refine kpf rfl rfl <| kmv rfl <| RunK.passed rfl rfl rfl <| RunK.passed rfl rfl rfl <| kpt rfl rfl <| kmv rfl <| RunK.passed rfl rfl rfl <| RunK.passed rfl rfl rfl <| kpt rfl rfl <| RunK.nil <| LWP.condT rfl ?_; refine LWP.seq <| LWP.region (by kernel_rfl) <| kas rfl <| RunK.nil <| LWP.ret ?_)
      exact ⟨[_], ⟨rfl, trivial⟩, rfl⟩
    · by_cases h3 : cap < 1
      · (refine LWP.seq <| LWP.region (by kernel_rfl) <| kas rfl <| RunK.nil <| LWP.seq <| LWP.seq <| LWP.region (by kernel_rfl) <| kmv rfl <| klt rfl rfl (decide_eq_false h1) <| kmv rfl <| gmv rfl rfl rfl <| K.gtr rfl rfl (decide_eq_false h2) (.taken rfl rfl) ?_; refine kpf rfl rfl <| kmv rfl <| gmv rfl rfl rfl <| K.lss rfl rfl (decide_eq_true h3) (.taken rfl rfl) ?_; refine kpf rfl rfl <| kmv rfl <| RunK.passed rfl rfl rfl <| RunK.passed rfl rfl rfl <| kpt rfl rfl <| RunK.nil <| LWP.condT rfl ?_; refine LWP.seq <| LWP.region (by kernel_rfl) <| kas rfl <| RunK.nil <| LWP.ret ?_)
        exact ⟨[_], ⟨rfl, trivial⟩, rfl⟩
      · (refine LWP.seq <| LWP.region (by kernel_rfl) <| kas rfl <| RunK.nil <| LWP.seq <| LWP.seq <| LWP.region (by kernel_rfl) <| kmv rfl <| klt rfl rfl (decide_eq_false h1) <| kmv rfl <| gmv rfl rfl rfl <| K.gtr rfl rfl (decide_eq_false h2) (.taken rfl rfl) ?_; refine kpf rfl rfl <| kmv rfl <| gmv rfl rfl rfl <| K.lss rfl rfl (decide_eq_false h3) (.taken rfl rfl) ?_; refine kpf rfl rfl <| kmv rfl <| gmv rfl rfl rfl <| K.gtr rfl rfl (decide_eq_true (by omega)) (.taken rfl rfl) ?_; refine kpf rfl rfl <| RunK.nil <| LWP.condT rfl ?_; refine LWP.seq <| LWP.region (by kernel_rfl) <| kas rfl <| RunK.nil <| LWP.ret ?_)
        exact ⟨[_], ⟨rfl, trivial⟩, rfl⟩
theorem cGet_no (size cap : Nat) (L : List (List UInt8)) (i : Int) (h : i < 0 ∨ (L.length : Int) ≤ i) :
    MSpec Try.prog X 8 [Lp 1000000, Ln .i64 i] [cB 1000000 size cap L] (.tup [Ss [], Sn .i64 3]) [cB 1000000 size cap L] := by
  refine MSpec.intro Try.func8 rfl (by kernel_rfl) rfl rfl (by exact (by repeat' (first | refine all_cons_true ?_ ?_ | rfl | exact bytes_inUse | exact vals_inUse | exact mid_inUse rfl))) rfl rfl ?_
  intro C
  refine LWP.ends (col_open fun H v cells B hO hI => ?_)
  have hs := seek_no (joinM X H) size cap L.length v i h
  (refine LWP.seq <| LWP.region (by kernel_rfl) <| kas rfl <| kas rfl <| RunK.nil <| LWP.seq <| LWP.seq <| LWP.region (by kernel_rfl) <| kmv rfl <| kmv rfl <| K.callR [(1000000, 1000000)] (hs) rfl rfl (by exact (And.intro ⟨_, rfl, rfl⟩ trivial)) (by exact (all_cons_true (all_cons_true rfl (all_cons_true rfl (all_cons_true rfl (all_cons_true rfl rfl)))) rfl)) rfl rfl rfl rfl .plain <| kas rfl <| RunK.nil <| LWP.seq ?_; refine LWP.region (by kernel_rfl) <| kmv rfl <| kne rfl rfl (bne_iff_ne.2 (by omega)) <| RunK.nil <| LWP.condT rfl ?_; refine LWP.seq <| LWP.region (by kernel_rfl) <| kmv rfl <| kas rfl <| kas rfl <| RunK.nil <| LWP.ret ?_)
  refine col_shut hO hI (Leads.done ?_)
  exact ⟨[], ⟨[_, _], ⟨rfl, rfl, trivial⟩, rfl⟩, (by repeat' (first | exact trivial | refine And.intro ⟨_, rfl, ?_⟩ ?_ | refine And.intro ⟨_, rfl⟩ ?_ | rfl | exact Box.ren_bytes _ _ _ _ | exact Box.ren_vals _ _ _ _ | exact Box.ren_mid rfl)), rfl, rfl⟩
set_option maxHeartbeats 1600000 in
theorem cGet_ok (size cap : Nat) (L : List (List UInt8)) (i : Nat) (l : List UInt8) (h : L[i]? = some l) :
    MSpec Try.prog X 8 [Lp 1000000, Ln .i64 (i : Nat)] [cB 1000000 size cap L] (.tup [Ss l, Sn .i64 0]) [cB 1000000 size cap L] := by
  refine MSpec.intro Try.func8 rfl (by kernel_rfl) rfl rfl (by exact (by repeat' (first | refine all_cons_true ?_ ?_ | rfl | exact bytes_inUse | exact vals_inUse | exact mid_inUse rfl))) rfl rfl ?_
  intro C
  have hi := (List.getElem?_eq_some_iff.1 h).1
  refine LWP.ends (col_open fun H v cells B hO hI => ?_)
  have hs := seek_ok (joinM X H) size cap L.length v i hi
  have hp := hI.pk.chunk hi
  have hfit := place_fit i size
  have hsm := hI.pk.small
  have hq := hI.pk.fit
  obtain ⟨db, ccap, arr, fr, b, cap2, arr2, fr2, sp, rfl, h1, h2, h3, h4, h5⟩ := hI.place hp
  obtain ⟨h6, h7⟩ := chunk_read (p := i % 16 * size) (z := size) h5 (by rw [hI.pk.len_at hp]; exact hfit)
  have hat := at_X (joinM X H) size cap L.length i (ccap := ccap) hsm.1 (by omega) hp (joinM_in h1) h2 hfit h3
  have hl : (arr2.toList.drop (i % 16 * size)).take size = l.map fun c => Value.int .u8 (c.toNat : Nat) := by
    rw [h7]
    have := hI.pk.row i l h
    unfold rowOf at this
    rw [this]; rfl
  have hX2 := joinM_in (X := X) h4
  generalize i % 16 * size = p at *
  (refine LWP.seq <| LWP.region (by kernel_rfl) <| kas rfl <| kas rfl <| RunK.nil <| LWP.seq <| LWP.seq <| LWP.region (by kernel_rfl) <| kmv rfl <| kmv rfl <| K.callR [(1000000, 1000000)] (hs) rfl rfl (by exact (And.intro ⟨_, rfl, rfl⟩ trivial)) (by exact (all_cons_true (all_cons_true rfl (all_cons_true rfl (all_cons_true rfl (all_cons_true rfl rfl)))) rfl)) rfl rfl rfl rfl .plain <| kas rfl <| RunK.nil <| LWP.seq ?_; refine LWP.region (by kernel_rfl) <| kmv rfl <| kne rfl rfl ((bne_eq_false_iff_eq.2 (by omega))) <| RunK.nil <| LWP.condF rfl ?_; refine LWP.skip ?_; refine LWP.seq <| LWP.region (by kernel_rfl) <| kmv rfl <| kmv rfl <| K.callR [(1000000, 1000000)] (hat) rfl rfl (by exact (And.intro ⟨_, rfl, rfl⟩ trivial)) (by exact (all_cons_true (all_cons_true rfl (all_cons_true rfl (all_cons_true rfl (all_cons_true rfl rfl)))) rfl)) rfl rfl rfl rfl .plain <| K.convStrX (l := l) rfl hX2 (by kernel_rfl) StrT.u h6 hl .plain ?_; refine kas rfl <| kas rfl <| RunK.nil <| LWP.ret ?_)
  refine col_shut hO hI (Leads.done ?_)
  exact ⟨[], ⟨[_, _], ⟨rfl, rfl, trivial⟩, rfl⟩, (by repeat' (first | exact trivial | refine And.intro ⟨_, rfl, ?_⟩ ?_ | refine And.intro ⟨_, rfl⟩ ?_ | rfl | exact Box.ren_bytes _ _ _ _ | exact Box.ren_vals _ _ _ _ | exact Box.ren_mid rfl)), rfl, rfl⟩
end Go.Proofs.Ytdlilapjijpghaa
end
section
-- package column as it landed: Set, Append
namespace Go.Lg.Col
open Go Go.Lg
/-- what Append, Set, Swap answer -/
def appE (size cap n : Nat) (row : List UInt8) : Int := if row.length ≠ size then 4 else if cap ≤ n then 5 else 0
def setE (size n : Nat) (i : Int) (row : List UInt8) : Int := if i < 0 ∨ (n : Int) ≤ i then 3 else if row.length ≠ size then 4 else 0
theorem appE_ok {size cap n : Nat} {row : List UInt8} (h : appE size cap n row = 0) : row.length = size ∧ n < cap := by
  unfold appE at h
  split at h
  · omega
  · split at h <;> omega
theorem appE_small (size cap n : Nat) (row : List UInt8) : 0 ≤ appE size cap n row ∧ appE size cap n row ≤ 5 := by unfold appE; (repeat' split) <;> omega
theorem setE_ok {size n : Nat} {i : Int} {row : List UInt8} (h : setE size n i row = 0) : row.length = size ∧ ∃ j : Nat, i = j ∧ j < n := by
  unfold setE at h
  split at h
  · omega
  · split at h
    · omega
    · exact ⟨by omega, i.toNat, by omega, by omega⟩
theorem splice_bc (ch : List UInt8) (p : Nat) (row : List UInt8) : splice (ch.map bc) p (row.map bc) = (splice ch p row).map bc := by unfold splice; simp
end Go.Lg.Col
namespace Go.Proofs.Ytdlilapjijpghaa
open Go Go.Lg Go.Lg.Col
set_option maxRecDepth 100000
variable (X : Nat → Option Obj)
theorem cSet_no (size cap : Nat) (L : List (List UInt8)) (i : Int) (row : List UInt8) {e : Int} (h : setE size L.length i row = e) (h0 : e ≠ 0) :
    MSpec Try.prog X 11 [Lp 1000000, Ln .i64 i, Ls row] [cB 1000000 size cap L] (Ln .i64 e) [cB 1000000 size cap L] := by
  refine MSpec.intro Try.func11 rfl (by kernel_rfl) rfl rfl (by exact (by repeat' (first | refine all_cons_true ?_ ?_ | rfl | exact bytes_inUse | exact vals_inUse | exact mid_inUse rfl))) rfl rfl ?_
  intro C
  refine LWP.ends (col_open fun H v cells B hO hI => ?_)
  unfold setE at h
  by_cases h1 : i < 0 ∨ (L.length : Int) ≤ i
  · rw [if_pos h1] at h
    subst h
    have hs := seek_no (joinM X H) size cap L.length v i h1
    (refine LWP.seq <| LWP.region (by kernel_rfl) <| kas rfl <| RunK.nil <| LWP.seq <| LWP.seq <| LWP.region (by kernel_rfl) <| kmv rfl <| kmv rfl <| K.callR [(1000000, 1000000)] (hs) rfl rfl (by exact (And.intro ⟨_, rfl, rfl⟩ trivial)) (by exact (all_cons_true (all_cons_true rfl (all_cons_true rfl (all_cons_true rfl (all_cons_true rfl rfl)))) rfl)) rfl rfl rfl rfl .plain <| kas rfl <| RunK.nil <| LWP.seq <| LWP.region (by kernel_rfl) ?_; refine kmv rfl <| kne rfl rfl (bne_iff_ne.2 (by omega)) <| RunK.nil <| LWP.condT rfl ?_; refine LWP.seq <| LWP.region (by kernel_rfl) <| kmv rfl <| kas rfl <| RunK.nil <| LWP.ret ?_)
    refine col_shut hO hI (Leads.done ?_)
    exact ⟨[], ⟨[_], ⟨rfl, trivial⟩, rfl⟩, (by repeat' (first | exact trivial | refine And.intro ⟨_, rfl, ?_⟩ ?_ | refine And.intro ⟨_, rfl⟩ ?_ | rfl | exact Box.ren_bytes _ _ _ _ | exact Box.ren_vals _ _ _ _ | exact Box.ren_mid rfl)), rfl, rfl⟩
  · rw [if_neg h1] at h
    by_cases h2 : row.length ≠ size
    · rw [if_pos h2] at h
      subst h
      obtain ⟨j, rfl, hj⟩ : ∃ j : Nat, i = j ∧ j < L.length := ⟨i.toNat, by omega, by omega⟩
      have hs := seek_ok (joinM X H) size cap L.length v j hj
      have hne : (((row.length : Nat) : Int) != (size : Nat)) = true := by rw [bne_iff_ne]; omega
      (refine LWP.seq <| LWP.region (by kernel_rfl) <| kas rfl <| RunK.nil <| LWP.seq <| LWP.seq <| LWP.region (by kernel_rfl) <| kmv rfl <| kmv rfl <| K.callR [(1000000, 1000000)] (hs) rfl rfl (by exact (And.intro ⟨_, rfl, rfl⟩ trivial)) (by exact (all_cons_true (all_cons_true rfl (all_cons_true rfl (all_cons_true rfl (all_cons_true rfl rfl)))) rfl)) rfl rfl rfl rfl .plain <| kas rfl <| RunK.nil <| LWP.seq <| LWP.region (by kernel_rfl) ?_; refine kmv rfl <| kne rfl rfl ((bne_eq_false_iff_eq.2 (by omega))) <| RunK.nil <| LWP.condF rfl ?_; refine LWP.skip ?_; refine LWP.seq <| LWP.seq <| LWP.region (by kernel_rfl) <| kmv rfl <| kln rfl <| kmv rfl <| K.nilCheck rfl .plain <| kfa rfl rfl ?_; refine kl1 rfl rfl rfl <| kne rfl rfl hne <| RunK.nil <| LWP.condT rfl ?_; refine LWP.seq <| LWP.region (by kernel_rfl) <| kas rfl <| RunK.nil <| LWP.ret ?_)
      refine col_shut hO hI (Leads.done ?_)
      exact ⟨[], ⟨[_], ⟨rfl, trivial⟩, rfl⟩, (by repeat' (first | exact trivial | refine And.intro ⟨_, rfl, ?_⟩ ?_ | refine And.intro ⟨_, rfl⟩ ?_ | rfl | exact Box.ren_bytes _ _ _ _ | exact Box.ren_vals _ _ _ _ | exact Box.ren_mid rfl)), rfl, rfl⟩
    · rw [if_neg h2] at h
      omega
set_option maxHeartbeats 1600000 in
theorem cSet_ok (size cap : Nat) (L : List (List UInt8)) (i : Nat) (row : List UInt8) (hi : i < L.length) (h : row.length = size) :
    MSpec Try.prog X 11 [Lp 1000000, Ln .i64 (i : Nat), Ls row] [cB 1000000 size cap L] (Ln .i64 0) [cB 1000000 size cap (L.set i row)] := by
  refine MSpec.intro Try.func11 rfl (by kernel_rfl) rfl rfl (by exact (by repeat' (first | refine all_cons_true ?_ ?_ | rfl | exact bytes_inUse | exact vals_inUse | exact mid_inUse rfl))) rfl rfl ?_
  intro C
  refine LWP.ends (col_open fun H v cells B hO hI => ?_)
  have hs := seek_ok (joinM X H) size cap L.length v i hi
  have hp := hI.pk.chunk hi
  have hfit := place_fit i size
  have hsm := hI.pk.small
  have hq := hI.pk.fit
  have hcl := hI.len
  have hbl := hI.pk.len_at hp
  have hne : (((row.length : Nat) : Int) != (size : Nat)) = false := by rw [bne_eq_false_iff_eq, h]
  (refine LWP.seq <| LWP.region (by kernel_rfl) <| kas rfl <| RunK.nil <| LWP.seq <| LWP.seq <| LWP.region (by kernel_rfl) <| kmv rfl <| kmv rfl <| K.callR [(1000000, 1000000)] (hs) rfl rfl (by exact (And.intro ⟨_, rfl, rfl⟩ trivial)) (by exact (all_cons_true (all_cons_true rfl (all_cons_true rfl (all_cons_true rfl (all_cons_true rfl rfl)))) rfl)) rfl rfl rfl rfl .plain <| kas rfl <| RunK.nil <| LWP.seq <| LWP.region (by kernel_rfl) ?_; refine kmv rfl <| kne rfl rfl ((bne_eq_false_iff_eq.2 (by omega))) <| RunK.nil <| LWP.condF rfl ?_; refine LWP.skip ?_; refine LWP.seq <| LWP.seq <| LWP.region (by kernel_rfl) <| kmv rfl <| kln rfl <| kmv rfl <| K.nilCheck rfl .plain <| kfa rfl rfl ?_; refine kl1 rfl rfl rfl <| kne rfl rfl hne <| RunK.nil <| LWP.condF rfl ?_; refine LWP.skip ?_; refine LWP.seq ?_)
  refine chunk_open hO hI hp (fun _ => rfl) (fun _ _ => rfl) fun H0 hO0 G _ => ?_
  have hat := at_B (joinM X H0) size cap L.length (B.getD (i / 16) []) i cells.length (B.getD (i / 16) []).length (cells.take (i / 16)) (cells.drop (i / 16 + 1)) true true hsm.1 (by omega) (by rw [List.length_take]; omega) (by omega) (by omega)
  have hcp : i % 16 * size + row.length ≤ ((B.getD (i / 16) []).map bc).length := by rw [List.length_map, h, hbl]; exact hfit
  (refine LWP.region (by kernel_rfl) <| kmv rfl <| kmv rfl <| K.callMp [(1000000, 1000000), (1000001, 900001), (1000002, 900002)] (.sv (.one (.slc 900002 (i % 16 * size) size))) (oB size cap L.length (i / 16) cells (B.getD (i / 16) [])) (hat) rfl rfl (by exact (And.intro ⟨_, rfl, rfl⟩ (And.intro ⟨_, rfl, (Box.ren_mid rfl)⟩ (And.intro ⟨_, rfl, (Box.ren_bytes _ _ _ _)⟩ trivial)))) (by exact (all_cons_true (all_cons_true rfl (all_cons_true rfl (all_cons_true rfl (all_cons_true rfl rfl)))) (all_cons_true (mid_inUse rfl) (all_cons_true bytes_inUse rfl)))) rfl rfl rfl rfl (by exact (.box rfl rfl (.box rfl (Box.ren_mid rfl) (.box rfl (Box.ren_bytes _ _ _ _) .nil)))) .plain <| kmv rfl <| K.copyStr (e := 5) rfl rfl rfl (by kernel_rfl) (by kernel_rfl) (by omega) hcp rfl (splice_bc _ _ _) .plain ?_; refine RunK.nil <| LWP.seq <| LWP.region (by kernel_rfl) <| kas rfl <| RunK.nil <| LWP.ret ?_)
  refine Leads.le (σ' := ⟨[(6, Ln .i64 0)], oB size cap (L.set i row).length (i / 16) cells (splice (B.getD (i / 16) []) (i % 16 * size) row), joinM X H0⟩) ?_ ?_
  · unfold oB oBr
    rw [splice_len (by rw [hbl, h]; exact hfit), List.length_set]
    exact Le.of (by exact ⟨rfl, trivial⟩) (by exact ⟨rfl, rfl, rfl, trivial⟩) (by exact rfl) (by exact rfl) (by repeat' (first | refine all_cons_true ?_ ?_ | rfl | exact bytes_inUse | exact vals_inUse | exact mid_inUse rfl))
  refine chunk_shut (by omega) hO0 G rfl rfl fun H' v' cells' hO' G' => ?_
  refine col_shut hO' ⟨G', hI.pk.set hi h⟩ (Leads.done ?_)
  exact ⟨[], ⟨[_], ⟨rfl, trivial⟩, rfl⟩, (by repeat' (first | exact trivial | refine And.intro ⟨_, rfl, ?_⟩ ?_ | refine And.intro ⟨_, rfl⟩ ?_ | rfl | exact Box.ren_bytes _ _ _ _ | exact Box.ren_vals _ _ _ _ | exact Box.ren_mid rfl)), rfl, rfl⟩
theorem cAppend_no (size cap : Nat) (L : List (List UInt8)) (row : List UInt8) {e : Int} (h : appE size cap L.length row = e) (h0 : e ≠ 0) (hb : row.length < 4294967296) :
    MSpec Try.prog X 10 [Lp 1000000, Ls row] [cB 1000000 size cap L] (Ln .i64 e) [cB 1000000 size cap L] := by
  refine MSpec.intro Try.func10 rfl (by kernel_rfl) rfl rfl (by exact (by repeat' (first | refine all_cons_true ?_ ?_ | rfl | exact bytes_inUse | exact vals_inUse | exact mid_inUse rfl))) rfl rfl ?_
  intro C
  refine LWP.ends (col_open fun H v cells B hO hI => ?_)
  unfold appE at h
  by_cases h1 : row.length ≠ size
  · rw [if_pos h1] at h
    subst h
    have hne : (((row.length : Nat) : Int) != (size : Nat)) = true := by rw [bne_iff_ne]; omega
    (refine LWP.seq <| LWP.region (by kernel_rfl) <| kas rfl <| RunK.nil <| LWP.seq <| LWP.block <| LWP.seq <| LWP.region (by kernel_rfl) <| kmv rfl <| K.ptrNil rfl (by kernel_rfl) (.inl ⟨rfl, rfl⟩) .plain <| kas rfl <| RunK.nil <| LWP.condF rfl ?_; refine LWP.seq <| LWP.region (by kernel_rfl) <| kmv rfl <| kln rfl <| kmv rfl <| K.nilCheck rfl .plain <| kfa rfl rfl ?_; refine kl1 rfl rfl rfl <| kne rfl rfl hne <| kas rfl <| RunK.nil <| LWP.condT rfl ?_; refine LWP.seq <| LWP.region (by kernel_rfl) <| kas rfl <| RunK.nil <| LWP.ret ?_)
    refine col_shut hO hI (Leads.done ?_)
    exact ⟨[], ⟨[_], ⟨rfl, trivial⟩, rfl⟩, (by repeat' (first | exact trivial | refine And.intro ⟨_, rfl, ?_⟩ ?_ | refine And.intro ⟨_, rfl⟩ ?_ | rfl | exact Box.ren_bytes _ _ _ _ | exact Box.ren_vals _ _ _ _ | exact Box.ren_mid rfl)), rfl, rfl⟩
  · rw [if_neg h1] at h
    by_cases h2 : cap ≤ L.length
    · rw [if_pos h2] at h
      subst h
      have hne : (((row.length : Nat) : Int) != (size : Nat)) = false := by rw [bne_eq_false_iff_eq]; omega
      (refine LWP.seq <| LWP.region (by kernel_rfl) <| kas rfl <| RunK.nil <| LWP.seq <| LWP.block <| LWP.seq <| LWP.region (by kernel_rfl) <| kmv rfl <| K.ptrNil rfl (by kernel_rfl) (.inl ⟨rfl, rfl⟩) .plain <| kas rfl <| RunK.nil <| LWP.condF rfl ?_; refine LWP.seq <| LWP.region (by kernel_rfl) <| kmv rfl <| kln rfl <| kmv rfl <| K.nilCheck rfl .plain <| kfa rfl rfl ?_; refine kl1 rfl rfl rfl <| kne rfl rfl hne <| kas rfl <| RunK.nil <| LWP.condF rfl ?_; refine LWP.seq <| LWP.draws mixed (by kernel_rfl) <| kmv rfl <| K.nilCheck rfl .plain <| kfa rfl rfl ?_; refine kl1 rfl rfl rfl <| kmv rfl <| K.nilCheck rfl .plain <| kfa rfl rfl ?_; refine kl1 rfl rfl rfl <| K.geq rfl rfl (decide_eq_true (by omega)) .plain <| kas rfl <| RunK.nil <| And.intro (by kernel_rfl) ?_; refine LWP.condT rfl ?_; refine LWP.seq <| LWP.region (by kernel_rfl) <| kas rfl <| RunK.nil <| LWP.ret ?_)
      refine col_shut hO hI (Leads.done ?_)
      exact ⟨[], ⟨[_], ⟨rfl, trivial⟩, rfl⟩, (by repeat' (first | exact trivial | refine And.intro ⟨_, rfl, ?_⟩ ?_ | refine And.intro ⟨_, rfl⟩ ?_ | rfl | exact Box.ren_bytes _ _ _ _ | exact Box.ren_vals _ _ _ _ | exact Box.ren_mid rfl)), rfl, rfl⟩
    · rw [if_neg h2] at h
      omega
set_option maxHeartbeats 3200000 in
theorem cAppend_in (size cap : Nat) (L : List (List UInt8)) (row : List UInt8) (h : row.length = size) (hn : L.length < cap) (h16 : L.length % 16 ≠ 0) :
    MSpec Try.prog X 10 [Lp 1000000, Ls row] [cB 1000000 size cap L] (Ln .i64 0) [cB 1000000 size cap (L ++ [row])] := by
  refine MSpec.intro Try.func10 rfl (by kernel_rfl) rfl rfl (by exact (by repeat' (first | refine all_cons_true ?_ ?_ | rfl | exact bytes_inUse | exact vals_inUse | exact mid_inUse rfl))) rfl rfl ?_
  intro C
  refine LWP.ends (col_open fun H v cells B hO hI => ?_)
  have hnb := hI.pk.nb
  have hp : L.length / 16 < B.length := by omega
  have hfit := place_fit L.length size
  have hsm := hI.pk.small
  have hcl := hI.len
  have hbl := hI.pk.len_at hp
  have hne : (((row.length : Nat) : Int) != (size : Nat)) = false := by rw [bne_eq_false_iff_eq, h]
  have hmul : IntKind.i64.wrap (((B.length : Nat) : Int) * 16) = ((B.length * 16 : Nat) : Int) := by rw [wrap_i64 (by omega)]; omega
  have heq : (((L.length : Nat) : Int) == ((B.length * 16 : Nat) : Int)) = false := by rw [beq_eq_false_iff_ne]; omega
  have hadd : IntKind.i64.wrap (((L.length : Nat) : Int) + 1) = ((L.length + 1 : Nat) : Int) := by rw [wrap_i64 (by omega)]; omega
  have hsub : IntKind.i64.wrap (((L.length + 1 : Nat) : Int) - 1) = ((L.length : Nat) : Int) := by rw [wrap_i64 (by omega)]; omega
  obtain ⟨ad, ccap, hv⟩ := hI.slice
  rw [hv]
  (refine LWP.seq <| LWP.region (by kernel_rfl) <| kas rfl <| RunK.nil <| LWP.seq <| LWP.block <| LWP.seq <| LWP.region (by kernel_rfl) <| kmv rfl <| K.ptrNil rfl (by kernel_rfl) (.inl ⟨rfl, rfl⟩) .plain <| kas rfl <| RunK.nil <| LWP.condF rfl ?_; refine LWP.seq <| LWP.region (by kernel_rfl) <| kmv rfl <| kln rfl <| kmv rfl <| K.nilCheck rfl .plain <| kfa rfl rfl ?_; refine kl1 rfl rfl rfl <| kne rfl rfl hne <| kas rfl <| RunK.nil <| LWP.condF rfl ?_; refine LWP.seq <| LWP.draws mixed (by kernel_rfl) <| kmv rfl <| K.nilCheck rfl .plain <| kfa rfl rfl ?_; refine kl1 rfl rfl rfl <| kmv rfl <| K.nilCheck rfl .plain <| kfa rfl rfl ?_; refine kl1 rfl rfl rfl <| K.geq rfl rfl (decide_eq_false (by omega)) .plain <| kas rfl <| RunK.nil <| And.intro (by kernel_rfl) ?_; refine LWP.condF rfl ?_; refine LWP.skip ?_; refine LWP.seq <| LWP.seq <| LWP.draws mixed (by kernel_rfl) <| kmv rfl <| K.nilCheck rfl .plain <| kfa rfl rfl ?_; refine kl1 rfl rfl rfl <| kmv rfl <| K.nilCheck rfl .plain <| kfa rfl rfl ?_; refine kl1 rfl rfl rfl <| K.lenX rfl SliceT.h rfl .plain ?_; refine K.mul rfl rfl hmul .plain <| keq rfl rfl heq <| RunK.nil <| And.intro (by kernel_rfl) ?_; refine LWP.condF rfl ?_; refine LWP.skip ?_; refine LWP.seq <| LWP.region (by kernel_rfl) <| kmv rfl <| K.nilCheck rfl .plain <| kfa rfl rfl ?_; refine kl1 rfl rfl rfl <| kad rfl rfl hadd <| K.nilCheck rfl .plain <| kfa rfl rfl ?_; refine K.storeOne rfl rfl rfl rfl rfl (nl4 rfl rfl rfl rfl rfl) .plain <| RunK.nil <| LWP.seq ?_)
  refine LWP.le (σ' := ⟨[(0, Lp 1000000), (1, Ls row)], [sB 1000000 size cap (L.length + 1) (.val (.slice ad B.length ccap))], joinM X H⟩) (Le.of (by exact ⟨rfl, rfl, trivial⟩) (by exact ⟨rfl, trivial⟩) (by exact rfl) (by exact rfl) (by repeat' (first | refine all_cons_true ?_ ?_ | rfl | exact bytes_inUse | exact vals_inUse | exact mid_inUse rfl))) ?_
  rw [← hv]
  refine chunk_open (m := L.length + 1) hO hI hp (fun _ => rfl) (fun _ _ => rfl) fun H0 hO0 G _ => ?_
  have hat := at_B (joinM X H0) size cap (L.length + 1) (B.getD (L.length / 16) []) L.length cells.length (B.getD (L.length / 16) []).length (cells.take (L.length / 16)) (cells.drop (L.length / 16 + 1)) true true hsm.1 (by omega) (by rw [List.length_take]; omega) (by omega) (by omega)
  have hcp : L.length % 16 * size + row.length ≤ ((B.getD (L.length / 16) []).map bc).length := by rw [List.length_map, h, hbl]; exact hfit
  (refine LWP.region (by kernel_rfl) <| kmv rfl <| kmv rfl <| K.nilCheck rfl .plain <| kfa rfl rfl ?_; refine kl1 rfl rfl rfl <| K.sub rfl rfl hsub .plain <| K.callMp [(1000000, 1000000), (1000001, 900001), (1000002, 900002)] (.sv (.one (.slc 900002 (L.length % 16 * size) size))) (oB size cap (L.length + 1) (L.length / 16) cells (B.getD (L.length / 16) [])) (hat) rfl rfl (by exact (And.intro ⟨_, rfl, rfl⟩ (And.intro ⟨_, rfl, (Box.ren_mid rfl)⟩ (And.intro ⟨_, rfl, (Box.ren_bytes _ _ _ _)⟩ trivial)))) (by exact (all_cons_true (all_cons_true rfl (all_cons_true rfl (all_cons_true rfl (all_cons_true rfl rfl)))) (all_cons_true (mid_inUse rfl) (all_cons_true bytes_inUse rfl)))) rfl rfl rfl rfl (by exact (.box rfl rfl (.box rfl (Box.ren_mid rfl) (.box rfl (Box.ren_bytes _ _ _ _) .nil)))) .plain <| kmv rfl <| K.copyStr (e := 5) rfl rfl rfl (by kernel_rfl) (by kernel_rfl) (by omega) hcp rfl (splice_bc _ _ _) .plain ?_; refine RunK.nil <| LWP.seq <| LWP.region (by kernel_rfl) <| kas rfl <| RunK.nil <| LWP.ret ?_)
  refine Leads.le (σ' := ⟨[(4, Ln .i64 0)], oB size cap (L ++ [row]).length (L.length / 16) cells (splice (B.getD (L.length / 16) []) (L.length % 16 * size) row), joinM X H0⟩) ?_ ?_
  · unfold oB oBr
    rw [splice_len (by rw [hbl, h]; exact hfit), List.length_append]
    exact Le.of (by exact ⟨rfl, trivial⟩) (by exact ⟨rfl, rfl, rfl, trivial⟩) (by exact rfl) (by exact rfl) (by repeat' (first | refine all_cons_true ?_ ?_ | rfl | exact bytes_inUse | exact vals_inUse | exact mid_inUse rfl))
  refine chunk_shut (by omega) hO0 G rfl rfl fun H' v' cells' hO' G' => ?_
  refine col_shut hO' ⟨G', hI.pk.push h hn h16⟩ (Leads.done ?_)
  exact ⟨[], ⟨[_], ⟨rfl, trivial⟩, rfl⟩, (by repeat' (first | exact trivial | refine And.intro ⟨_, rfl, ?_⟩ ?_ | refine And.intro ⟨_, rfl⟩ ?_ | rfl | exact Box.ren_bytes _ _ _ _ | exact Box.ren_vals _ _ _ _ | exact Box.ren_mid rfl)), rfl, rfl⟩
end Go.Proofs.Ytdlilapjijpghaa
end
section
-- package column as it landed: Append, to a chunk more
namespace Go.Proofs.Ytdlilapjijpghaa
open Go Go.Lg Go.Lg.Col
set_option maxRecDepth 100000
/-- a chunk of naughts -/
abbrev zs0 (z : Nat) : List UInt8 := List.replicate (16 * z) 0
section
variable {n : Nat} {C : Ctx} {X : Nat → Option Obj} {s : List (Nat × LV)}
theorem new_shut {Mid : St → Prop} {z q : Nat} {L B : List (List UInt8)} {row : List UInt8} {H0 : Nat → Option Obj} {cells : List Value} (hO : OwnedM C X H0) (G : Cells H0 5 [] cells (B.map byV)) (pk : Packed z q L B) (hr : row.length = z) (hf : L.length < q) (hn : L.length % 16 = 0)
    (h : Leads n C Mid ⟨[(4, Ln .i64 0)], [cB 1000000 z q (L ++ [row])], X⟩) :
    Leads n C Mid ⟨[(4, Ln .i64 0)], oBr z q (L ++ [row]).length cells.length (cells ++ [nilSlc]) (splice (zs0 z) (L.length % 16 * z) row) false, joinM X H0⟩ := by
  have hcl : cells.length = B.length := by rw [G.len, List.length_map]
  have hb : B.length = L.length / 16 := by rw [pk.nb]; omega
  have G2 : Cells H0 5 [cells.length] (cells ++ [nilSlc]) ((B ++ [zs0 z]).map byV) := by
    rw [List.map_append]; exact G.snoc nilSlc (byV (zs0 z))
  refine chunk_shut (by rw [List.length_append]; exact Nat.lt_succ_self _) hO G2 rfl rfl fun H' v' cells' hO' G' => ?_
  have hw : (B ++ [zs0 z]).set cells.length (splice (zs0 z) (L.length % 16 * z) row) = wr (B ++ [zs0 z]) z L.length row := by
    unfold wr
    rw [hcl, hb]
    congr 2
    rw [← hb, List.getD_eq_getElem?_getD, List.getElem?_append_right (Nat.le_refl _), Nat.sub_self]; rfl
  rw [hw] at G'
  exact col_shut hO' ⟨G', pk.push_new hr hf hn⟩ h
end
variable (X : Nat → Option Obj)
set_option maxHeartbeats 6400000 in
theorem cAppend_new (size cap : Nat) (L : List (List UInt8)) (row : List UInt8) (h : row.length = size) (hn : L.length < cap) (h16 : L.length % 16 = 0) :
    MSpec Try.prog X 10 [Lp 1000000, Ls row] [cB 1000000 size cap L] (Ln .i64 0) [cB 1000000 size cap (L ++ [row])] := by
  refine MSpec.intro Try.func10 rfl (by kernel_rfl) rfl rfl (by exact (by repeat' (first | refine all_cons_true ?_ ?_ | rfl | exact bytes_inUse | exact vals_inUse | exact mid_inUse rfl))) rfl rfl ?_
  intro C
  refine LWP.ends (col_open fun H v cells B hO hI => ?_)
  have hnb := hI.pk.nb
  have hfit := place_fit L.length size
  have hsm := hI.pk.small
  have hcl := hI.len
  have hne : (((row.length : Nat) : Int) != (size : Nat)) = false := by rw [bne_eq_false_iff_eq, h]
  have hmul : IntKind.i64.wrap (((B.length : Nat) : Int) * 16) = ((B.length * 16 : Nat) : Int) := by rw [wrap_i64 (by omega)]; omega
  have heq : (((L.length : Nat) : Int) == ((B.length * 16 : Nat) : Int)) = true := by rw [beq_iff_eq]; omega
  have hadd : IntKind.i64.wrap (((L.length : Nat) : Int) + 1) = ((L.length + 1 : Nat) : Int) := by rw [wrap_i64 (by omega)]; omega
  have hsub : IntKind.i64.wrap (((L.length + 1 : Nat) : Int) - 1) = ((L.length : Nat) : Int) := by rw [wrap_i64 (by omega)]; omega
  have hmz : IntKind.i64.wrap (((size : Nat) : Int) * 16) = ((16 * size : Nat) : Int) := by rw [wrap_i64 (by omega)]; omega
  have hmk : slcBuild Try.prog 51 (16 * size) = some (List.replicate (16 * size) (.int .u8 0), 1, 5) := slcBuild_one (by kernel_rfl) (by kernel_rfl) (by omega)
  have hz0 : (List.replicate (16 * size) (Value.int .u8 0)).map CV.val = (zs0 size).map bc := by unfold zs0; rw [List.map_replicate, List.map_replicate]; rfl
  have hzl : (zs0 size).length = 16 * size := List.length_replicate
  have hspl : (splice (zs0 size) (L.length % 16 * size) row).length = 16 * size := by rw [splice_len (by rw [hzl, h]; exact hfit), hzl]
  have hcp : L.length % 16 * size + row.length ≤ ((zs0 size).map bc).length := by rw [List.length_map, h, hzl]; exact hfit
  obtain ⟨ad, ccap, hv⟩ := hI.slice
  rw [hv]
  (refine LWP.seq <| LWP.region (by kernel_rfl) <| kas rfl <| RunK.nil <| LWP.seq <| LWP.block <| LWP.seq <| LWP.region (by kernel_rfl) <| kmv rfl <| K.ptrNil rfl (by kernel_rfl) (.inl ⟨rfl, rfl⟩) .plain <| kas rfl <| RunK.nil <| LWP.condF rfl ?_; refine LWP.seq <| LWP.region (by kernel_rfl) <| kmv rfl <| kln rfl <| kmv rfl <| K.nilCheck rfl .plain <| kfa rfl rfl ?_; refine kl1 rfl rfl rfl <| kne rfl rfl hne <| kas rfl <| RunK.nil <| LWP.condF rfl ?_; refine LWP.seq <| LWP.draws mixed (by kernel_rfl) <| kmv rfl <| K.nilCheck rfl .plain <| kfa rfl rfl ?_; refine kl1 rfl rfl rfl <| kmv rfl <| K.nilCheck rfl .plain <| kfa rfl rfl ?_; refine kl1 rfl rfl rfl <| K.geq rfl rfl (decide_eq_false (by omega)) .plain <| kas rfl <| RunK.nil <| And.intro (by kernel_rfl) ?_; refine LWP.condF rfl ?_; refine LWP.skip ?_; refine LWP.seq <| LWP.seq <| LWP.draws mixed (by kernel_rfl) <| kmv rfl <| K.nilCheck rfl .plain <| kfa rfl rfl ?_; refine kl1 rfl rfl rfl <| kmv rfl <| K.nilCheck rfl .plain <| kfa rfl rfl ?_; refine kl1 rfl rfl rfl <| K.lenX rfl SliceT.h rfl .plain ?_; refine K.mul rfl rfl hmul .plain <| keq rfl rfl heq <| RunK.nil <| And.intro (by kernel_rfl) ?_; refine LWP.condT rfl ?_)
  refine LWP.le (σ' := ⟨[(0, Lp 1000000), (1, Ls row)], [sB 1000000 size cap L.length (.val (.slice ad B.length ccap))], joinM X H⟩) (Le.of (by exact ⟨rfl, rfl, trivial⟩) (by exact ⟨rfl, trivial⟩) (by exact rfl) (by exact rfl) (by repeat' (first | refine all_cons_true ?_ ?_ | rfl | exact bytes_inUse | exact vals_inUse | exact mid_inUse rfl))) ?_
  rw [← hv]
  rcases hI.grid with ⟨db, hd, G⟩ | ⟨rfl, rfl, hB0⟩
  · have hat := at_B (joinM X (cutM H db)) size cap (L.length + 1) (zs0 size) L.length (cells.length + 1) (16 * size) cells [] true false hsm.1 (by omega) (by omega) (by omega) hfit
    have hcl1 : (cells.map CV.val).length = cells.length * 1 := by rw [List.length_map, Nat.mul_one]
    refine LWP.openCell (A := [.val (.int .i64 (size : Nat)), .val (.int .i64 (cap : Nat)), .val (.int .i64 (L.length : Nat))]) (B := []) (k := 900001) (sz := 1) (len := cells.length) hO hd (by omega) (by omega) rfl rfl rfl rfl rfl ?_
    (refine LWP.draws mixed (by kernel_rfl) <| kmv rfl <| kmv rfl <| K.nilCheck rfl .plain <| kfa rfl rfl ?_; refine kl1 rfl rfl rfl <| kmv rfl <| K.nilCheck rfl .plain <| kfa rfl rfl ?_; refine kl1 rfl rfl rfl <| K.mul rfl rfl hmz .plain <| K.makeSlc (m := 16 * size) (bytes := 1) rfl rfl hmk (by kernel_rfl) (by omega) hz0 rfl .plain <| K.buildSlc (zs := [.slice none 0 0]) (sz := 1) (e := 51) (cs' := [.slc 47 0 (16 * size)]) (by kernel_rfl) rfl rfl rfl rfl rfl rfl .plain <| K.appendSlc (by_ := 24) (e2 := 51) (l2 := [.slc 47 0 (16 * size)]) (nl := cells.length + 1) (nc := cells.map .val ++ [.slc 47 0 (16 * size)]) rfl rfl hcl1 rfl rfl (Nat.le_refl _) rfl rfl (by kernel_rfl) (by kernel_rfl) (by omega) (by omega) rfl rfl rfl .plain <| K.nilCheck rfl .plain <| kfa rfl rfl ?_; refine K.storeOne rfl rfl rfl rfl rfl (nl4 rfl rfl rfl rfl rfl) .plain <| RunK.nil <| And.intro (by kernel_rfl) ?_; refine LWP.seq <| LWP.region (by kernel_rfl) <| kmv rfl <| K.nilCheck rfl .plain <| kfa rfl rfl ?_; refine kl1 rfl rfl rfl <| kad rfl rfl hadd <| K.nilCheck rfl .plain <| kfa rfl rfl ?_; refine K.storeOne rfl rfl rfl rfl rfl (nl4 rfl rfl rfl rfl rfl) .plain <| RunK.nil <| LWP.seq <| LWP.region (by kernel_rfl) <| kmv rfl <| kmv rfl <| K.nilCheck rfl .plain <| kfa rfl rfl ?_; refine kl1 rfl rfl rfl <| K.sub rfl rfl hsub .plain <| K.callMp [(1000000, 1000000), (1000001, 49), (1000002, 47)] (.sv (.one (.slc 47 (L.length % 16 * size) size))) [sB 1000000 size cap (L.length + 1) (.slc 49 0 (cells.length + 1)), (49, some ⟨51, cells.map .val ++ [.slc 47 0 (16 * size)], true⟩), (47, some ⟨5, (zs0 size).map bc, false⟩)] (hat) rfl rfl (by exact (And.intro ⟨_, rfl, rfl⟩ (And.intro ⟨_, rfl, (Box.ren_mid rfl)⟩ (And.intro ⟨_, rfl, (Box.ren_bytes _ _ _ _)⟩ trivial)))) (by exact (all_cons_true (all_cons_true rfl (all_cons_true rfl (all_cons_true rfl (all_cons_true rfl rfl)))) (all_cons_true (mid_inUse rfl) (all_cons_true bytes_inUse rfl)))) rfl rfl rfl rfl (by exact (.box rfl rfl (.box rfl (Box.ren_mid rfl) (.box rfl (Box.ren_bytes _ _ _ _) .nil)))) .plain <| kmv rfl <| K.copyStr (e := 5) rfl rfl rfl (by kernel_rfl) (by kernel_rfl) (by omega) hcp rfl (splice_bc _ _ _) .plain ?_; refine RunK.nil <| LWP.seq <| LWP.region (by kernel_rfl) <| kas rfl <| RunK.nil <| LWP.ret ?_)
    refine Leads.le (σ' := ⟨[(4, Ln .i64 0)], oBr size cap (L ++ [row]).length cells.length (cells ++ [nilSlc]) (splice (zs0 size) (L.length % 16 * size) row) false, joinM X (cutM H db)⟩) ?_ ?_
    · unfold oBr
      rw [hspl, List.length_append, List.length_append, List.take_left, List.drop_eq_nil_of_le (by rw [List.length_append]; exact Nat.le_refl _)]
      exact Le.ofR [(900001, 49), (900002, 47)] (by exact ⟨rfl, trivial⟩) (by repeat' (first | exact trivial | refine And.intro ⟨_, rfl, ?_⟩ ?_ | refine And.intro ⟨_, rfl⟩ ?_ | rfl | exact Box.ren_bytes _ _ _ _ | exact Box.ren_vals _ _ _ _ | exact Box.ren_mid rfl)) (by exact rfl) (by exact rfl) (by repeat' (first | refine all_cons_true ?_ ?_ | rfl | exact bytes_inUse | exact vals_inUse | exact mid_inUse rfl)) (by exact rfl) (by exact rfl)
    refine new_shut (hO.cut db) G hI.pk h hn h16 (Leads.done ?_)
    exact ⟨[], ⟨[_], ⟨rfl, trivial⟩, rfl⟩, (by repeat' (first | exact trivial | refine And.intro ⟨_, rfl, ?_⟩ ?_ | refine And.intro ⟨_, rfl⟩ ?_ | rfl | exact Box.ren_bytes _ _ _ _ | exact Box.ren_vals _ _ _ _ | exact Box.ren_mid rfl)), rfl, rfl⟩
  · have hB : B = [] := List.map_eq_nil_iff.1 hB0
    subst hB
    have hat := at_B (joinM X H) size cap (L.length + 1) (zs0 size) L.length 1 (16 * size) [] [] true false hsm.1 (by omega) (by rw [List.length_nil] at *; omega) (by rw [List.length_nil] at *; omega) hfit
    (refine LWP.draws mixed (by kernel_rfl) <| kmv rfl <| kmv rfl <| K.nilCheck rfl .plain <| kfa rfl rfl ?_; refine kl1 rfl rfl rfl <| kmv rfl <| K.nilCheck rfl .plain <| kfa rfl rfl ?_; refine kl1 rfl rfl rfl <| K.mul rfl rfl hmz .plain <| K.makeSlc (m := 16 * size) (bytes := 1) rfl rfl hmk (by kernel_rfl) (by omega) hz0 rfl .plain <| K.buildSlc (zs := [.slice none 0 0]) (sz := 1) (e := 51) (cs' := [.slc 47 0 (16 * size)]) (by kernel_rfl) rfl rfl rfl rfl rfl rfl .plain <| K.appendNil (by_ := 24) (e := 51) (e2 := 51) (l2 := [.slc 47 0 (16 * size)]) rfl rfl rfl (Nat.le_refl _) rfl rfl (by decide) (by kernel_rfl) (by kernel_rfl) (by omega) (by omega) rfl .plain ?_; refine K.nilCheck rfl .plain <| kfa rfl rfl ?_; refine K.storeOne rfl rfl rfl rfl rfl (nl4 rfl rfl rfl rfl rfl) .plain <| RunK.nil <| And.intro (by kernel_rfl) ?_; refine LWP.seq <| LWP.region (by kernel_rfl) <| kmv rfl <| K.nilCheck rfl .plain <| kfa rfl rfl ?_; refine kl1 rfl rfl rfl <| kad rfl rfl hadd <| K.nilCheck rfl .plain <| kfa rfl rfl ?_; refine K.storeOne rfl rfl rfl rfl rfl (nl4 rfl rfl rfl rfl rfl) .plain <| RunK.nil <| LWP.seq <| LWP.region (by kernel_rfl) <| kmv rfl <| kmv rfl <| K.nilCheck rfl .plain <| kfa rfl rfl ?_; refine kl1 rfl rfl rfl <| K.sub rfl rfl hsub .plain <| K.callMp [(1000000, 1000000), (1000001, 49), (1000002, 47)] (.sv (.one (.slc 47 (L.length % 16 * size) size))) [sB 1000000 size cap (L.length + 1) (.slc 49 0 1), (49, some ⟨51, [.slc 47 0 (16 * size)], true⟩), (47, some ⟨5, (zs0 size).map bc, false⟩)] (hat) rfl rfl (by exact (And.intro ⟨_, rfl, rfl⟩ (And.intro ⟨_, rfl, rfl⟩ (And.intro ⟨_, rfl, (Box.ren_bytes _ _ _ _)⟩ trivial)))) (by exact (all_cons_true (all_cons_true rfl (all_cons_true rfl (all_cons_true rfl (all_cons_true rfl rfl)))) (all_cons_true (all_cons_true rfl rfl) (all_cons_true bytes_inUse rfl)))) rfl rfl rfl rfl (by exact (.box rfl rfl (.box rfl rfl (.box rfl (Box.ren_bytes _ _ _ _) .nil)))) .plain <| kmv rfl <| K.copyStr (e := 5) rfl rfl rfl (by kernel_rfl) (by kernel_rfl) (by omega) hcp rfl (splice_bc _ _ _) .plain ?_; refine RunK.nil <| LWP.seq <| LWP.region (by kernel_rfl) <| kas rfl <| RunK.nil <| LWP.ret ?_)
    refine Leads.le (σ' := ⟨[(4, Ln .i64 0)], oBr size cap (L ++ [row]).length ([] : List Value).length ([] ++ [nilSlc]) (splice (zs0 size) (L.length % 16 * size) row) false, joinM X H⟩) ?_ ?_
    · unfold oBr
      rw [hspl, List.length_append]
      exact Le.ofR [(900001, 49), (900002, 47)] (by exact ⟨rfl, trivial⟩) (by repeat' (first | exact trivial | refine And.intro ⟨_, rfl, ?_⟩ ?_ | refine And.intro ⟨_, rfl⟩ ?_ | rfl | exact Box.ren_bytes _ _ _ _ | exact Box.ren_vals _ _ _ _ | exact Box.ren_mid rfl)) (by exact rfl) (by exact rfl) (by repeat' (first | refine all_cons_true ?_ ?_ | rfl | exact bytes_inUse | exact vals_inUse | exact mid_inUse rfl)) (by exact rfl) (by exact rfl)
    refine new_shut (B := []) hO (Cells.nil H 5 []) hI.pk h hn h16 (Leads.done ?_)
    exact ⟨[], ⟨[_], ⟨rfl, trivial⟩, rfl⟩, (by repeat' (first | exact trivial | refine And.intro ⟨_, rfl, ?_⟩ ?_ | refine And.intro ⟨_, rfl⟩ ?_ | rfl | exact Box.ren_bytes _ _ _ _ | exact Box.ren_vals _ _ _ _ | exact Box.ren_mid rfl)), rfl, rfl⟩
theorem cAppend_ok (size cap : Nat) (L : List (List UInt8)) (row : List UInt8) (h : appE size cap L.length row = 0) :
    MSpec Try.prog X 10 [Lp 1000000, Ls row] [cB 1000000 size cap L] (Ln .i64 0) [cB 1000000 size cap (L ++ [row])] := by
  obtain ⟨h1, h2⟩ := appE_ok h
  by_cases h16 : L.length % 16 = 0
  · exact cAppend_new X size cap L row h1 h2 h16
  · exact cAppend_in X size cap L row h1 h2 h16
end Go.Proofs.Ytdlilapjijpghaa
end
section
-- package column as it landed: Swap
namespace Go.Proofs.Ytdlilapjijpghaa
open Go Go.Lg Go.Lg.Col
set_option maxRecDepth 100000
theorem mid_other {α β : Type} {f : α → β} {cells : List α} {p j : Nat} {x : β} {c : α} (hp : p < cells.length) (hj : p ≠ j) (hc : cells[j]? = some c) : ((cells.take p).map f ++ x :: (cells.drop (p + 1)).map f)[j]? = some (f c) := by
  have e : (cells.take p).map f ++ x :: (cells.drop (p + 1)).map f = (cells.map f).set p x := by
    rw [List.set_eq_take_append_cons_drop, if_pos (by rw [List.length_map]; exact hp), List.map_take, List.map_drop]
  rw [e, List.getElem?_set_ne hj, List.getElem?_map, hc]; rfl
variable (X : Nat → Option Obj)
/-- the last chunk goes -/
theorem drop_spec (z q m : Nat) (A : List Value) (w : Value) (hA : A.length < 65536) :
    MSpec Try.prog X 25 [Lp 1000000] [sB 1000000 z q m (.slc 1000001 0 (A.length + 1)), (1000001, some ⟨51, A.map .val ++ .val w :: ([] : List Value).map .val, true⟩)] (.tup [])
      [sB 1000000 z q m (.slc 1000001 0 A.length), (1000001, some ⟨51, A.map .val ++ .val nilSlc :: ([] : List Value).map .val, true⟩)] := by
  refine MSpec.intro Try.func25 rfl (by kernel_rfl) rfl rfl (by exact (by repeat' (first | refine all_cons_true ?_ ?_ | rfl | exact bytes_inUse | exact vals_inUse | exact mid_inUse rfl))) rfl rfl ?_
  intro C
  have hsub : IntKind.i64.wrap (((A.length + 1 : Nat) : Int) - 1) = ((A.length : Nat) : Int) := by rw [wrap_i64 (by omega)]; omega
  have hix : 0 + Int.toNat ((A.length : Nat) : Int) * 1 = A.length := by rw [Int.toNat_natCast]; omega
  have hblt : Nat.blt A.length (A.map CV.val ++ .val w :: ([] : List Value).map CV.val).length = true := by rw [Nat.blt_eq, List.length_append, List.length_map]; simp
  have hput : (A.map CV.val ++ .val w :: ([] : List Value).map CV.val).set A.length (.val nilSlc) = A.map CV.val ++ .val nilSlc :: ([] : List Value).map CV.val := by
    rw [List.set_append_right _ _ (by rw [List.length_map]; exact Nat.le_refl _), List.length_map, Nat.sub_self]; rfl
  (refine LWP.seq <| LWP.region (by kernel_rfl) <| kmv rfl <| K.nilCheck rfl .plain <| kfa rfl rfl ?_; refine kl1 rfl rfl rfl <| K.lenSlc rfl SliceT.h rfl .plain ?_; refine K.sub rfl rfl hsub .plain <| kas rfl <| RunK.nil <| LWP.seq <| LWP.region (by kernel_rfl) <| kmv rfl <| K.nilCheck rfl .plain <| kfa rfl rfl ?_; refine kl1 rfl rfl rfl <| kmv rfl <| K.indexSlc rfl rfl (by omega) hix .plain ?_; refine K.storeOne rfl rfl rfl rfl hblt hput .plain <| RunK.nil <| LWP.region (by kernel_rfl) <| kmv rfl <| kmv rfl <| K.nilCheck rfl .plain <| kfa rfl rfl ?_; refine kl1 rfl rfl rfl <| kmv rfl <| K.cutSlc rfl rfl SliceT.h (by omega) .plain <| K.nilCheck rfl .plain <| kfa rfl rfl ?_; refine K.storeOne rfl rfl rfl rfl rfl (nl4 rfl rfl rfl rfl rfl) .plain <| RunK.nil ?_)
  exact ⟨[], ⟨[], trivial, rfl⟩, (by repeat' (first | exact trivial | refine And.intro ⟨_, rfl, ?_⟩ ?_ | refine And.intro ⟨_, rfl⟩ ?_ | rfl | exact Box.ren_bytes _ _ _ _ | exact Box.ren_vals _ _ _ _ | exact Box.ren_mid rfl)), rfl, rfl⟩
theorem cSwap_no (size cap : Nat) (L : List (List UInt8)) (i : Int) (h : i < 0 ∨ (L.length : Int) ≤ i) :
    MSpec Try.prog X 9 [Lp 1000000, Ln .i64 i] [cB 1000000 size cap L] (.tup [Sn .i64 0, Sn .i64 3]) [cB 1000000 size cap L] := by
  refine MSpec.intro Try.func9 rfl (by kernel_rfl) rfl rfl (by exact (by repeat' (first | refine all_cons_true ?_ ?_ | rfl | exact bytes_inUse | exact vals_inUse | exact mid_inUse rfl))) rfl rfl ?_
  intro C
  refine LWP.ends (col_open fun H v cells B hO hI => ?_)
  have hs := seek_no (joinM X H) size cap L.length v i h
  (refine LWP.seq <| LWP.region (by kernel_rfl) <| kas rfl <| kas rfl <| RunK.nil <| LWP.seq <| LWP.seq <| LWP.region (by kernel_rfl) <| kmv rfl <| kmv rfl <| K.callR [(1000000, 1000000)] (hs) rfl rfl (by exact (And.intro ⟨_, rfl, rfl⟩ trivial)) (by exact (all_cons_true (all_cons_true rfl (all_cons_true rfl (all_cons_true rfl (all_cons_true rfl rfl)))) rfl)) rfl rfl rfl rfl .plain <| kas rfl <| RunK.nil <| LWP.seq ?_; refine LWP.region (by kernel_rfl) <| kmv rfl <| kne rfl rfl (bne_iff_ne.2 (by omega)) <| RunK.nil <| LWP.condT rfl ?_; refine LWP.seq <| LWP.region (by kernel_rfl) <| kmv rfl <| kas rfl <| kas rfl <| RunK.nil <| LWP.ret ?_)
  refine col_shut hO hI (Leads.done ?_)
  exact ⟨[], ⟨[_, _], ⟨rfl, rfl, trivial⟩, rfl⟩, (by repeat' (first | exact trivial | refine And.intro ⟨_, rfl, ?_⟩ ?_ | refine And.intro ⟨_, rfl⟩ ?_ | rfl | exact Box.ren_bytes _ _ _ _ | exact Box.ren_vals _ _ _ _ | exact Box.ren_mid rfl)), rfl, rfl⟩
set_option maxHeartbeats 6400000 in
theorem cSwap_ok (size cap : Nat) (L : List (List UInt8)) (i : Nat) {M : List (List UInt8)} (h : i < L.length) (hM : swapL L i = M) :
    MSpec Try.prog X 9 [Lp 1000000, Ln .i64 (i : Nat)] [cB 1000000 size cap L] (.tup [Sn .i64 (L.length - 1 : Nat), Sn .i64 0]) [cB 1000000 size cap M] := by
  subst hM
  refine MSpec.intro Try.func9 rfl (by kernel_rfl) rfl rfl (by exact (by repeat' (first | refine all_cons_true ?_ ?_ | rfl | exact bytes_inUse | exact vals_inUse | exact mid_inUse rfl))) rfl rfl ?_
  intro C
  refine LWP.ends (col_open fun H v cells B hO hI => ?_)
  obtain ⟨l, hl⟩ : ∃ l, L[L.length - 1]? = some l := ⟨_, List.getElem?_eq_getElem (by omega)⟩
  have hlen := hI.pk.rows l (List.mem_of_getElem? hl)
  have hs := seek_ok (joinM X H) size cap L.length v i h
  have hnb := hI.pk.nb
  have hp : i / 16 < B.length := by omega
  have hp1 : (L.length - 1) / 16 < B.length := by omega
  have hfit := place_fit i size
  have hfit1 := place_fit (L.length - 1) size
  have hsm := hI.pk.small
  have hq := hI.pk.fit
  have hcl := hI.len
  have hbl := hI.pk.len_at hp
  have hbl1 := hI.pk.len_at hp1
  have hrow := hI.pk.row _ l hl
  unfold rowOf at hrow
  have hsw := hI.pk.swap h hl
  have hswl := swapL_len (L := L) (i := i) (by omega)
  have hsub : IntKind.i64.wrap (((L.length : Nat) : Int) - 1) = ((L.length - 1 : Nat) : Int) := by rw [wrap_i64 (by omega)]; omega
  have hone : (byV l).all Value.oneCell' = true := by unfold byV; rw [List.all_map]; exact List.all_eq_true.2 fun _ _ => rfl
  (refine LWP.seq <| LWP.region (by kernel_rfl) <| kas rfl <| kas rfl <| RunK.nil <| LWP.seq <| LWP.seq <| LWP.region (by kernel_rfl) <| kmv rfl <| kmv rfl <| K.callR [(1000000, 1000000)] (hs) rfl rfl (by exact (And.intro ⟨_, rfl, rfl⟩ trivial)) (by exact (all_cons_true (all_cons_true rfl (all_cons_true rfl (all_cons_true rfl (all_cons_true rfl rfl)))) rfl)) rfl rfl rfl rfl .plain <| kas rfl <| RunK.nil <| LWP.seq ?_; refine LWP.region (by kernel_rfl) <| kmv rfl <| kne rfl rfl ((bne_eq_false_iff_eq.2 (by omega))) <| RunK.nil <| LWP.condF rfl ?_; refine LWP.skip ?_; refine LWP.seq <| LWP.region (by kernel_rfl) <| kmv rfl <| K.nilCheck rfl .plain <| kfa rfl rfl ?_; refine kl1 rfl rfl rfl <| K.sub rfl rfl hsub .plain <| kas rfl <| RunK.nil <| LWP.seq ?_)
  generalize hn1 : L.length - 1 = n1 at *
  refine LWP.meetL (fun σ => ∃ (H' : Nat → Option Obj) (v' : Value) (cells' : List Value), OwnedM C X H' ∧ Grid H' 51 5 v' cells' ((wr B size i l).map byV) ∧ σ = ⟨[(0, Lp 1000000), (7, Ln .i64 (n1 : Nat))], [sB 1000000 size cap L.length (.val v')], joinM X H'⟩) ?_ ?_
  · refine chunk_open hO hI hp (fun _ => rfl) (fun _ _ => rfl) fun H0 hO0 G hoth => ?_
    have hat := at_B (joinM X H0) size cap L.length (B.getD (i / 16) []) i cells.length (B.getD (i / 16) []).length (cells.take (i / 16)) (cells.drop (i / 16 + 1)) true true hsm.1 (by omega) (by rw [List.length_take]; omega) (by omega) (by omega)
    have hcp : i % 16 * size + size ≤ ((B.getD (i / 16) []).map bc).length := by rw [List.length_map, hbl]; exact hfit
    have hspl : splice ((B.getD (i / 16) []).map bc) (i % 16 * size) ((byV l).map CV.val) = (splice (B.getD (i / 16) []) (i % 16 * size) l).map bc := by rw [byV_bc]; exact splice_bc _ _ _
    have hend : (splice (B.getD (i / 16) []) (i % 16 * size) l).length = (B.getD (i / 16) []).length := splice_len (by rw [hlen, hbl]; exact hfit)
    by_cases hsame : i / 16 = n1 / 16
    · have hat2 := at_B (joinM X H0) size cap L.length (B.getD (i / 16) []) n1 cells.length (B.getD (i / 16) []).length (cells.take (i / 16)) (cells.drop (i / 16 + 1)) true true hsm.1 (by omega) (by rw [List.length_take]; omega) (by omega) (by omega)
      have hsrc : (((B.getD (i / 16) []).map bc).drop (n1 % 16 * size)).take size = (byV l).map CV.val := by rw [← List.map_drop, ← List.map_take, hsame, hrow, byV_bc]
      have hcp2 : n1 % 16 * size + size ≤ ((B.getD (i / 16) []).map bc).length := by rw [List.length_map, hbl]; exact hfit1
      (refine LWP.region (by kernel_rfl) <| kmv rfl <| kmv rfl <| K.callMp [(1000000, 1000000), (1000001, 900001), (1000002, 900002)] (.sv (.one (.slc 900002 (i % 16 * size) size))) (oB size cap L.length (i / 16) cells (B.getD (i / 16) [])) (hat) rfl rfl (by exact (And.intro ⟨_, rfl, rfl⟩ (And.intro ⟨_, rfl, (Box.ren_mid rfl)⟩ (And.intro ⟨_, rfl, (Box.ren_bytes _ _ _ _)⟩ trivial)))) (by exact (all_cons_true (all_cons_true rfl (all_cons_true rfl (all_cons_true rfl (all_cons_true rfl rfl)))) (all_cons_true (mid_inUse rfl) (all_cons_true bytes_inUse rfl)))) rfl rfl rfl rfl (by exact (.box rfl rfl (.box rfl (Box.ren_mid rfl) (.box rfl (Box.ren_bytes _ _ _ _) .nil)))) .plain <| kmv rfl <| kmv rfl <| K.callMp [(1000000, 1000000), (1000001, 900001), (1000002, 900002)] (.sv (.one (.slc 900002 (n1 % 16 * size) size))) (oB size cap L.length (i / 16) cells (B.getD (i / 16) [])) (hat2) rfl rfl (by exact (And.intro ⟨_, rfl, rfl⟩ (And.intro ⟨_, rfl, (Box.ren_mid rfl)⟩ (And.intro ⟨_, rfl, (Box.ren_bytes _ _ _ _)⟩ trivial)))) (by exact (all_cons_true (all_cons_true rfl (all_cons_true rfl (all_cons_true rfl (all_cons_true rfl rfl)))) (all_cons_true (mid_inUse rfl) (all_cons_true bytes_inUse rfl)))) rfl rfl rfl rfl (by exact (.box rfl rfl (.box rfl (Box.ren_mid rfl) (.box rfl (Box.ren_bytes _ _ _ _) .nil)))) .plain <| K.copySlc (e := 5) (m := size) (byV l) rfl rfl rfl rfl (by kernel_rfl) (by kernel_rfl) (Nat.min_self _) hcp hcp2 hsrc hone hspl .plain ?_; refine RunK.nil ?_)
      refine Leads.le (σ' := ⟨[(0, Lp 1000000), (7, Ln .i64 (n1 : Nat))], oB size cap L.length (i / 16) cells (splice (B.getD (i / 16) []) (i % 16 * size) l), joinM X H0⟩) ?_ ?_
      · unfold oB oBr
        rw [hend]
        exact Le.of (by exact ⟨rfl, rfl, trivial⟩) (by exact ⟨rfl, rfl, rfl, trivial⟩) (by exact rfl) (by exact rfl) (by repeat' (first | refine all_cons_true ?_ ?_ | rfl | exact bytes_inUse | exact vals_inUse | exact mid_inUse rfl))
      exact chunk_shut (by omega) hO0 G rfl rfl fun H' v' cells' hO' G' => Leads.done ⟨H', v', cells', hO', G', rfl⟩
    · obtain ⟨c, hc⟩ : ∃ c, cells[n1 / 16]? = some c := ⟨_, List.getElem?_eq_getElem (by omega)⟩
      obtain ⟨b, ccap, arr, fr, sp, rfl, g1, g2, g3⟩ := hoth (n1 / 16) c (fun e => hsame e.symm) hc
      have hcell : ((cells.take (i / 16)).map CV.val ++ .slc 1000002 0 (B.getD (i / 16) []).length :: (cells.drop (i / 16 + 1)).map CV.val)[n1 / 16]? = some (.val (.slice (some ⟨b, 0, none⟩) (16 * size) ccap)) := mid_other (by omega) hsame hc
      have hat2 := at_V (joinM X H0) size cap L.length (B.getD (i / 16) []) n1 cells.length (16 * size) (B.getD (i / 16) []).length b ccap (cells.take (i / 16)) (cells.drop (i / 16 + 1)) true true hsm.1 (by omega) (by omega) hfit1 g1 hcell
      obtain ⟨r1, r2⟩ := chunk_read (p := n1 % 16 * size) (z := size) g3 (by rw [hbl1]; exact hfit1)
      rw [hrow] at r2
      have hX2 := joinM_in (X := X) g2
      (refine LWP.region (by kernel_rfl) <| kmv rfl <| kmv rfl <| K.callMp [(1000000, 1000000), (1000001, 900001), (1000002, 900002)] (.sv (.one (.slc 900002 (i % 16 * size) size))) (oB size cap L.length (i / 16) cells (B.getD (i / 16) [])) (hat) rfl rfl (by exact (And.intro ⟨_, rfl, rfl⟩ (And.intro ⟨_, rfl, (Box.ren_mid rfl)⟩ (And.intro ⟨_, rfl, (Box.ren_bytes _ _ _ _)⟩ trivial)))) (by exact (all_cons_true (all_cons_true rfl (all_cons_true rfl (all_cons_true rfl (all_cons_true rfl rfl)))) (all_cons_true (mid_inUse rfl) (all_cons_true bytes_inUse rfl)))) rfl rfl rfl rfl (by exact (.box rfl rfl (.box rfl (Box.ren_mid rfl) (.box rfl (Box.ren_bytes _ _ _ _) .nil)))) .plain <| kmv rfl <| kmv rfl <| K.callR [(1000000, 1000000), (1000001, 900001), (1000002, 900002)] (hat2) rfl rfl (by exact (And.intro ⟨_, rfl, rfl⟩ (And.intro ⟨_, rfl, (Box.ren_mid rfl)⟩ (And.intro ⟨_, rfl, (Box.ren_bytes _ _ _ _)⟩ trivial)))) (by exact (all_cons_true (all_cons_true rfl (all_cons_true rfl (all_cons_true rfl (all_cons_true rfl rfl)))) (all_cons_true (mid_inUse rfl) (all_cons_true bytes_inUse rfl)))) rfl rfl rfl rfl .plain <| K.copyX (e := 5) (m := size) (byV l) rfl rfl rfl hX2 (by kernel_rfl) (by kernel_rfl) (Nat.min_self _) hcp r1 r2 hone hspl .plain ?_; refine RunK.nil ?_)
      refine Leads.le (σ' := ⟨[(0, Lp 1000000), (7, Ln .i64 (n1 : Nat))], oB size cap L.length (i / 16) cells (splice (B.getD (i / 16) []) (i % 16 * size) l), joinM X H0⟩) ?_ ?_
      · unfold oB oBr
        rw [hend]
        exact Le.of (by exact ⟨rfl, rfl, trivial⟩) (by exact ⟨rfl, rfl, rfl, trivial⟩) (by exact rfl) (by exact rfl) (by repeat' (first | refine all_cons_true ?_ ?_ | rfl | exact bytes_inUse | exact vals_inUse | exact mid_inUse rfl))
      exact chunk_shut (by omega) hO0 G rfl rfl fun H' v' cells' hO' G' => Leads.done ⟨H', v', cells', hO', G', rfl⟩
  · rintro σ ⟨H', v', cells', hO', G', rfl⟩
    have hrem : ((n1 : Nat) : Int).tmod 16 = ((n1 % 16 : Nat) : Int) := by rw [Int.tmod_eq_emod_of_nonneg (by omega)]; omega
    have hcl' : cells'.length = B.length := by rw [G'.len, List.length_map, wr_len]
    by_cases hd : n1 % 16 = 0
    · have hz : (((n1 % 16 : Nat) : Int) == 0) = true := by rw [beq_iff_eq]; omega
      (refine LWP.seq <| LWP.region (by kernel_rfl) <| kmv rfl <| kmv rfl <| K.nilCheck rfl .plain <| kfa rfl rfl ?_; refine K.storeOne rfl rfl rfl rfl rfl (nl4 rfl rfl rfl rfl rfl) .plain <| RunK.nil <| LWP.seq <| LWP.seq <| LWP.region (by kernel_rfl) <| kmv rfl <| K.rem rfl rfl (by decide) hrem .plain <| keq rfl rfl hz <| RunK.nil <| LWP.condT rfl ?_)
      refine LWP.le (σ' := ⟨[(0, Lp 1000000), (7, Ln .i64 (n1 : Nat))], [sB 1000000 size cap n1 (.val v')], joinM X H'⟩) (Le.of (by exact ⟨rfl, rfl, trivial⟩) (by exact ⟨rfl, trivial⟩) (by exact rfl) (by exact rfl) (by repeat' (first | refine all_cons_true ?_ ?_ | rfl | exact bytes_inUse | exact vals_inUse | exact mid_inUse rfl))) ?_
      obtain ⟨db, hdb, Gc⟩ := G'.real (fun e => by
        have : ((wr B size i l).map byV).length = 0 := by rw [e]; rfl
        rw [List.length_map, wr_len] at this; omega)
      refine LWP.openCell (A := [.val (.int .i64 (size : Nat)), .val (.int .i64 (cap : Nat)), .val (.int .i64 (n1 : Nat))]) (B := []) (k := 900001) (sz := 1) (len := cells'.length) hO' hdb (by omega) (by omega) rfl rfl rfl rfl rfl ?_
      obtain ⟨w, hw⟩ : ∃ w, cells'[n1 / 16]? = some w := ⟨_, List.getElem?_eq_getElem (by omega)⟩
      have hAl : (cells'.take (n1 / 16)).length = n1 / 16 := by rw [List.length_take]; omega
      have hdr : cells'.drop (n1 / 16 + 1) = [] := List.drop_eq_nil_of_le (by omega)
      have hmid : cells'.map CV.val = (cells'.take (n1 / 16)).map .val ++ .val w :: ([] : List Value).map .val := by
        conv => lhs; rw [mid_of hw, hdr]
        simp
      have htk := Gc.take (n1 / 16)
      have hlen1 : cells'.length = (cells'.take (n1 / 16)).length + 1 := by rw [hAl]; omega
      rw [hmid, hlen1]
      have hdrop := drop_spec (joinM X (cutM H' db)) size cap n1 (cells'.take (n1 / 16)) w (by omega)
      generalize cells'.take (n1 / 16) = A at *
      (refine LWP.region (by kernel_rfl) <| kmv rfl <| K.callM [(1000000, 1000000), (1000001, 900001)] [sB 1000000 size cap n1 (.slc 900001 0 A.length), (900001, some ⟨51, A.map .val ++ .val nilSlc :: ([] : List Value).map .val, true⟩)] (hdrop) rfl rfl (by exact (And.intro ⟨_, rfl, rfl⟩ (And.intro ⟨_, rfl, (Box.ren_mid rfl)⟩ trivial))) (by exact (all_cons_true (all_cons_true rfl (all_cons_true rfl (all_cons_true rfl (all_cons_true rfl rfl)))) (all_cons_true (mid_inUse rfl) rfl))) rfl rfl rfl rfl (by exact (.box rfl rfl (.box rfl (Box.ren_mid rfl) .nil))) .plain <| RunK.nil <| LWP.seq <| LWP.region (by kernel_rfl) <| kmv rfl <| kas rfl <| kas rfl <| RunK.nil <| LWP.ret ?_)
      refine Leads.le (σ' := ⟨[(4, Ln .i64 (n1 : Nat)), (5, Ln .i64 0)], [(900001, some ⟨51, A.map .val ++ .val nilSlc :: ([] : List Value).map .val, true⟩), sB 1000000 size cap n1 (.slc 900001 0 A.length)], joinM X (cutM H' db)⟩) (Le.of (by exact ⟨rfl, rfl, trivial⟩) (by exact ⟨rfl, rfl, trivial⟩) (by exact rfl) (by exact rfl) (by repeat' (first | refine all_cons_true ?_ ?_ | rfl | exact bytes_inUse | exact vals_inUse | exact mid_inUse rfl))) ?_
      refine Leads.le Le.trim ?_
      refine Leads.le (σ' := ⟨[(4, Ln .i64 (n1 : Nat)), (5, Ln .i64 0)], [(1000000, some ⟨56, [.val (.int .i64 (size : Nat)), .val (.int .i64 (cap : Nat)), .val (.int .i64 (n1 : Nat))] ++ .slc 900001 0 A.length :: [], false⟩), (900001, some ⟨51, A.map .val, true⟩)], joinM X (cutM H' db)⟩) ?_ ?_
      · exact Le.same ⟨fun _ => rfl, fun j => look_swap rfl, rfl⟩
      refine Leads.closeCell (hO'.cut db) (by omega) rfl rfl rfl rfl rfl rfl fun d1 o2 v2 h2 _ hO4 hv2 => ?_
      have hgr := Grid.shut htk h2 hv2
      rw [← List.map_take] at hgr
      rw [← hswl]
      refine col_shut hO4 (cells := A) (B := (wr B size i l).take ((n1 + 15) / 16)) ⟨?_, hsw⟩ (Leads.done ?_)
      · rw [show (n1 + 15) / 16 = n1 / 16 by omega]; exact hgr
      · exact ⟨[], ⟨[_, _], ⟨rfl, rfl, trivial⟩, rfl⟩, (by repeat' (first | exact trivial | refine And.intro ⟨_, rfl, ?_⟩ ?_ | refine And.intro ⟨_, rfl⟩ ?_ | rfl | exact Box.ren_bytes _ _ _ _ | exact Box.ren_vals _ _ _ _ | exact Box.ren_mid rfl)), rfl, rfl⟩
    · have hz : (((n1 % 16 : Nat) : Int) == 0) = false := by rw [beq_eq_false_iff_ne]; omega
      (refine LWP.seq <| LWP.region (by kernel_rfl) <| kmv rfl <| kmv rfl <| K.nilCheck rfl .plain <| kfa rfl rfl ?_; refine K.storeOne rfl rfl rfl rfl rfl (nl4 rfl rfl rfl rfl rfl) .plain <| RunK.nil <| LWP.seq <| LWP.seq <| LWP.region (by kernel_rfl) <| kmv rfl <| K.rem rfl rfl (by decide) hrem .plain <| keq rfl rfl hz <| RunK.nil <| LWP.condF rfl ?_; refine LWP.skip ?_; refine LWP.seq <| LWP.region (by kernel_rfl) <| kmv rfl <| kas rfl <| kas rfl <| RunK.nil <| LWP.ret ?_)
      refine Leads.le (σ' := ⟨[(4, Ln .i64 (n1 : Nat)), (5, Ln .i64 0)], [sB 1000000 size cap (swapL L i).length (.val v')], joinM X H'⟩) (by rw [hswl]; exact Le.of (by exact ⟨rfl, rfl, trivial⟩) (by exact ⟨rfl, trivial⟩) (by exact rfl) (by exact rfl) (by repeat' (first | refine all_cons_true ?_ ?_ | rfl | exact bytes_inUse | exact vals_inUse | exact mid_inUse rfl))) ?_
      rw [List.take_of_length_le (by rw [wr_len]; omega)] at hsw
      refine col_shut hO' ⟨G', hsw⟩ (Leads.done ?_)
      exact ⟨[], ⟨[_, _], ⟨rfl, rfl, trivial⟩, rfl⟩, (by repeat' (first | exact trivial | refine And.intro ⟨_, rfl, ?_⟩ ?_ | refine And.intro ⟨_, rfl⟩ ?_ | rfl | exact Box.ren_bytes _ _ _ _ | exact Box.ren_vals _ _ _ _ | exact Box.ren_mid rfl)), rfl, rfl⟩
end Go.Proofs.Ytdlilapjijpghaa
end
