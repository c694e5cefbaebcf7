/- A piece of a proof over this program: contracts of its functions, and a logic to prove them by. -/
import Derived.Test.YtfcaebhofjjjnaaDoorP6
section
namespace Go.Lg.Fld
open Go Go.Lg
theorem chkAB_comm {a b : Sc} (h : chkAB a b = 0) : chkAB b a = 0 := by
  obtain ⟨h1, h2⟩ := chkAB_zero.1 h
  exact chkAB_zero.2 ⟨h2, h1⟩
theorem diff_same {a b : Sc} (ha : Good a.cs) (hb : Good b.cs) : decide (a = (⟨a.ver, b.cs⟩ : Sc)) = (((diffL a.cs b.cs).length : Int) == 0) := by
  obtain ⟨v, cs⟩ := a
  obtain ⟨v2, ds⟩ := b
  have h := diff_nil ha hb
  by_cases e : (diffL cs ds).length = 0
  · have e2 : cs = ds := h.1 e
    simp only [e]
    rw [decide_eq_true (by rw [e2])]
    rfl
  · rw [decide_eq_false (fun e2 => e (h.2 (by simpa using e2)))]
    exact (beq_eq_false_iff_ne.2 (by simp only; omega)).symm
def turnsV : List Value := [.int .i64 0, .int .i64 2, .int .i64 1, .int .i64 3, .int .i64 5, .int .i64 4, .int .i64 6, .int .i64 7]
theorem turn_at {k : Int} (h1 : 1 ≤ k) (h7 : k ≤ 7) : (turnsV.map CV.val)[k.toNat]? = some (.val (.int .i64 (turnK k))) := by
  rcases (by omega : k = 1 ∨ k = 2 ∨ k = 3 ∨ k = 4 ∨ k = 5 ∨ k = 6 ∨ k = 7) with rfl | rfl | rfl | rfl | rfl | rfl | rfl <;> rfl
theorem count_snoc {α : Type} {l : List α} {i : Nat} {x : α} (h : l[i]? = some x) (p : α → Bool) : (l.take (i + 1)).countP p = (l.take i).countP p + if p x = true then 1 else 0 := by
  rw [take_snoc h, List.countP_append]
  congr 1
  by_cases hp : p x = true <;> simp [hp]
end Go.Lg.Fld
namespace Go.Proofs.YtfcaebhofjjjnaaDoor
open Go Go.Lg Go.Lg.Fld
set_option maxRecDepth 100000
variable (X : Nat → Option Obj)
instance : ArrB Tryd.prog 50 (List.replicate 8 (.int .i64 0)) 1 := ⟨by kernel_rfl⟩
abbrev tnB (k : Nat) : Nat × Option Box := (k, some ⟨50, turnsV.map .val, false⟩)
set_option maxHeartbeats 12800000 in
theorem DiffSame_spec (a b : Sc) (ad bd : Option Addr) (ca cb : Nat) (ha : CompsIn X ad a.cs) (hb : CompsIn X bd b.cs) (hNa : NamesIn a.cs) (hNb : NamesIn b.cs) :
    PSpec Tryd.prog X 5 [Sx a.ver ad a.cs.length ca, Sx b.ver bd b.cs.length cb] (Lb true) := by
  have hW := awake9_spec X
  have g1 := great9_spec X a.ver ad ca a.cs ha (greatB9 a.cs) rfl
  have g2 := great9_spec X b.ver bd cb b.cs hb (greatB9 b.cs) rfl
  refine PSpec.intro Tryd.func5 rfl (by kernel_rfl) rfl rfl ?_
  intro C
  cases hg : greatB9 a.cs with
  | true =>
    rw [hg] at g1
    (refine LWP.seq <| LWP.region (by kernel_rfl) <| K.box rfl rfl rfl .plain <| K.box rfl rfl rfl .plain <| kas rfl <| RunK.nil <| LWP.seq <| LWP.seq <| LWP.region (by kernel_rfl) <| kca rfl rfl (hW) <| K.not rfl rfl .plain <| RunK.nil <| LWP.condF rfl ?_; refine LWP.skip ?_; refine LWP.seq <| LWP.seq <| LWP.region (by kernel_rfl) <| K.loadAll rfl rfl rfl .plain ?_; refine kca rfl rfl g1 <| kmv rfl <| RunK.passed rfl rfl rfl <| RunK.passed rfl rfl rfl <| kpt rfl rfl <| RunK.nil <| LWP.condT rfl ?_; refine LWP.seq <| LWP.region (by kernel_rfl) <| kas rfl <| RunK.nil <| LWP.ret ?_)
    exact ⟨[_], ⟨rfl, trivial⟩, rfl⟩
  | false =>
  rw [hg] at g1
  cases hg2 : greatB9 b.cs with
  | true =>
    rw [hg2] at g2
    (refine LWP.seq <| LWP.region (by kernel_rfl) <| K.box rfl rfl rfl .plain <| K.box rfl rfl rfl .plain <| kas rfl <| RunK.nil <| LWP.seq <| LWP.seq <| LWP.region (by kernel_rfl) <| kca rfl rfl (hW) <| K.not rfl rfl .plain <| RunK.nil <| LWP.condF rfl ?_; refine LWP.skip ?_; refine LWP.seq <| LWP.seq <| LWP.region (by kernel_rfl) <| K.loadAll rfl rfl rfl .plain ?_; refine kca rfl rfl g1 <| kmv rfl <| K.loadAll rfl rfl rfl (.taken rfl rfl) ?_; refine gca rfl rfl g2 rfl rfl <| kpf rfl rfl <| RunK.nil <| LWP.condT rfl ?_; refine LWP.seq <| LWP.region (by kernel_rfl) <| kas rfl <| RunK.nil <| LWP.ret ?_)
    exact ⟨[_], ⟨rfl, trivial⟩, rfl⟩
  | false =>
  rw [hg2] at g2
  have hsa := greatB9_small hg
  have hsb := greatB9_small hg2
  have hna := hNa.names hsa
  have hnb := hNb.names hsb
  have ob := of_both X a b ad bd ca cb ha hb hsa hsb hna hnb
  (refine LWP.seq <| LWP.region (by kernel_rfl) <| K.box rfl rfl rfl .plain <| K.box rfl rfl rfl .plain <| kas rfl <| RunK.nil <| LWP.seq <| LWP.seq <| LWP.region (by kernel_rfl) <| kca rfl rfl (hW) <| K.not rfl rfl .plain <| RunK.nil <| LWP.condF rfl ?_; refine LWP.skip ?_; refine LWP.seq <| LWP.seq <| LWP.region (by kernel_rfl) <| K.loadAll rfl rfl rfl .plain ?_; refine kca rfl rfl g1 <| kmv rfl <| K.loadAll rfl rfl rfl (.taken rfl rfl) ?_; refine gca rfl rfl g2 rfl rfl <| kpf rfl rfl <| RunK.nil <| LWP.condF rfl ?_; refine LWP.skip ?_; refine LWP.seq ?_)
  repeat refine LWP.seq ?_
  refine LWP.meetL (fun σ => ∃ (Y : Nat → Option Obj) (ld : Option Addr) (lc : Nat), (∀ b o, X b = some o → Y b = some o) ∧ ChIn Y ld (ofL a b) ∧ σ = d2St a b ad bd ca cb [(5, Vs ld (ofL a b).length lc), (6, Ln .i64 (chkAB a b))] [] Y) ?_ ?_
  · rcases ob with ⟨h0, p⟩ | p
    · (refine LWP.region (by kernel_rfl) <| K.loadAll rfl rfl rfl .plain ?_; refine K.loadAll rfl rfl rfl .plain ?_; refine K.callM [] [] (p) rfl rfl (by exact trivial) rfl rfl rfl rfl rfl (by exact .nil) .plain <| kmv rfl <| kex rfl rfl <| kex rfl rfl <| kas rfl <| kas rfl <| RunK.nil ?_)
      exact Leads.here (σ' := d2St a b ad bd ca cb [(5, Vs none 0 0), (6, Ln .i64 (chkAB a b))] [] X) (Le.of (by exact ⟨rfl, rfl, rfl, rfl, trivial⟩) (by exact ⟨rfl, rfl, trivial⟩) (by exact rfl) (by exact rfl) (by repeat' (first | refine all_cons_true ?_ ?_ | rfl | exact bytes_inUse | exact vals_inUse | exact mid_inUse rfl))) ⟨X, none, 0, fun _ _ h => h, rows_none (by rw [h0]; rfl), by rw [h0]; rfl⟩
    · (refine LWP.region (by kernel_rfl) <| K.loadAll rfl rfl rfl .plain ?_; refine K.loadAll rfl rfl rfl .plain ?_; refine K.callMp [(1000001, 600)] (.tup [.one (.slc 600 0 (ofL a b).length 3), Sn .i64 (chkAB a b)]) [dhB 600 (ofL a b)] (p) rfl rfl (by exact trivial) rfl rfl rfl rfl rfl (by exact (.box rfl (Box.ren_vals _ _ _ _) .nil)) .plain <| kmv rfl <| kex rfl rfl <| kex rfl rfl <| kas rfl <| kas rfl <| RunK.nil ?_)
      refine Leads.le (σ' := ⟨[(5, .sv (.one (.slc 600 0 (ofL a b).length 3))), (2, Lp 2), (3, Lp 3), (6, Ln .i64 (chkAB a b))], [dhB 600 (ofL a b), sxB 2 a.ver ad a.cs.length ca, sxB 3 b.ver bd b.cs.length cb], X⟩) (Le.of (by exact ⟨rfl, rfl, rfl, rfl, trivial⟩) (by exact ⟨rfl, rfl, rfl, trivial⟩) (by exact rfl) (by exact rfl) (by repeat' (first | refine all_cons_true ?_ ?_ | rfl | exact bytes_inUse | exact vals_inUse | exact mid_inUse rfl))) ?_
      refine Leads.freeze rfl rfl rfl fun b1 c1 a1 f1 hn _ _ _ hsp => ?_
      exact Leads.le (Le.of (by exact ⟨rfl, rfl, rfl, rfl, trivial⟩) (by exact ⟨rfl, rfl, trivial⟩) (by exact rfl) (by exact rfl) (by repeat' (first | refine all_cons_true ?_ ?_ | rfl | exact bytes_inUse | exact vals_inUse | exact mid_inUse rfl))) (Leads.done ⟨_, some ⟨b1, 0, none⟩, c1, withBlock_old hn, ch_frozen hsp, rfl⟩)
  rintro σ ⟨Y1, ld, lc, hY1, hLin, rfl⟩
  replace ha := ha.mono hY1
  replace hb := hb.mono hY1
  have lb := of_both Y1 b a bd ad cb ca hb ha hsb hsa hnb hna
  repeat refine LWP.seq ?_
  refine LWP.meetL (fun σ => ∃ (Y : Nat → Option Obj) (td : Option Addr) (tc : Nat), (∀ b o, Y1 b = some o → Y b = some o) ∧ ChIn Y td (ofL b a) ∧ σ = d2St a b ad bd ca cb [(5, Vs ld (ofL a b).length lc), (6, Ln .i64 (chkAB a b)), (7, Vs td (ofL b a).length tc), (8, Ln .i64 (chkAB b a))] [] Y) ?_ ?_
  · rcases lb with ⟨h0, p⟩ | p
    · (refine LWP.region (by kernel_rfl) <| K.loadAll rfl rfl rfl .plain ?_; refine K.loadAll rfl rfl rfl .plain ?_; refine K.callM [] [] (p) rfl rfl (by exact trivial) rfl rfl rfl rfl rfl (by exact .nil) .plain <| kmv rfl <| kex rfl rfl <| kex rfl rfl <| kas rfl <| kas rfl <| RunK.nil ?_)
      exact Leads.here (σ' := d2St a b ad bd ca cb [(5, Vs ld (ofL a b).length lc), (6, Ln .i64 (chkAB a b)), (7, Vs none 0 0), (8, Ln .i64 (chkAB b a))] [] Y1) (Le.of (by exact ⟨rfl, rfl, rfl, rfl, rfl, rfl, trivial⟩) (by exact ⟨rfl, rfl, trivial⟩) (by exact rfl) (by exact rfl) (by repeat' (first | refine all_cons_true ?_ ?_ | rfl | exact bytes_inUse | exact vals_inUse | exact mid_inUse rfl))) ⟨Y1, none, 0, fun _ _ h => h, rows_none (by rw [h0]; rfl), by rw [h0]; rfl⟩
    · (refine LWP.region (by kernel_rfl) <| K.loadAll rfl rfl rfl .plain ?_; refine K.loadAll rfl rfl rfl .plain ?_; refine K.callMp [(1000001, 600)] (.tup [.one (.slc 600 0 (ofL b a).length 3), Sn .i64 (chkAB b a)]) [dhB 600 (ofL b a)] (p) rfl rfl (by exact trivial) rfl rfl rfl rfl rfl (by exact (.box rfl (Box.ren_vals _ _ _ _) .nil)) .plain <| kmv rfl <| kex rfl rfl <| kex rfl rfl <| kas rfl <| kas rfl <| RunK.nil ?_)
      refine Leads.le (σ' := ⟨[(7, .sv (.one (.slc 600 0 (ofL b a).length 3))), (2, Lp 2), (3, Lp 3), (5, Vs ld (ofL a b).length lc), (6, Ln .i64 (chkAB a b)), (8, Ln .i64 (chkAB b a))], [dhB 600 (ofL b a), sxB 2 a.ver ad a.cs.length ca, sxB 3 b.ver bd b.cs.length cb], Y1⟩) (Le.of (by exact ⟨rfl, rfl, rfl, rfl, rfl, rfl, trivial⟩) (by exact ⟨rfl, rfl, rfl, trivial⟩) (by exact rfl) (by exact rfl) (by repeat' (first | refine all_cons_true ?_ ?_ | rfl | exact bytes_inUse | exact vals_inUse | exact mid_inUse rfl))) ?_
      refine Leads.freeze rfl rfl rfl fun b1 c1 a1 f1 hn _ _ _ hsp => ?_
      exact Leads.le (Le.of (by exact ⟨rfl, rfl, rfl, rfl, rfl, rfl, trivial⟩) (by exact ⟨rfl, rfl, trivial⟩) (by exact rfl) (by exact rfl) (by repeat' (first | refine all_cons_true ?_ ?_ | rfl | exact bytes_inUse | exact vals_inUse | exact mid_inUse rfl))) (Leads.done ⟨_, some ⟨b1, 0, none⟩, c1, withBlock_old hn, ch_frozen hsp, rfl⟩)
  rintro σ ⟨Z, td, tc, hZ, hMin, rfl⟩
  replace ha := ha.mono hZ
  replace hb := hb.mono hZ
  replace hLin := hLin.mono hZ
  by_cases hz : chkAB a b = 0
  case neg =>
    have e1 : ofL a b = [] := if_neg hz
    rw [e1]
    have hnz : (chkAB a b != 0) = true := bne_iff_ne.2 hz
    (refine LWP.seq <| LWP.seq <| LWP.region (by kernel_rfl) <| kmv rfl <| kne rfl rfl hnz <| kmv rfl <| RunK.passed rfl rfl rfl <| RunK.passed rfl rfl rfl <| kpt rfl rfl <| RunK.nil <| LWP.condT rfl ?_; refine LWP.seq <| LWP.region (by kernel_rfl) <| kmv rfl <| K.lenX rfl SliceT.h rfl .plain ?_; refine keq rfl rfl rfl <| kas rfl <| RunK.nil <| LWP.ret ?_)
    exact ⟨[_], ⟨rfl, trivial⟩, rfl⟩
  have hz2 := chkAB_comm hz
  obtain ⟨hza, hzb⟩ := chkAB_zero.1 hz
  have hgA := chk_good hza
  have hgB := chk_good hzb
  have hS := pSameBig Z a ⟨a.ver, b.cs⟩ ad bd ca cb ha hb (by have := hsa.1; omega) (fun c hc => by have := hsa.2 c hc; omega) _ (diff_same hgA hgB)
  rw [show ofL a b = diffL a.cs b.cs from if_pos hz] at hLin ⊢
  rw [show ofL b a = diffL b.cs a.cs from if_pos hz2] at hMin ⊢
  rw [hz, hz2]
  have hDl : (diffL a.cs b.cs).length ≤ 60 * 24 := up_len hsa.2 hsb.2 24
  have hlen := diff_len hgA hgB
  have honce : ∀ x ∈ diffL a.cs b.cs, (diffL b.cs a.cs).countP (fun y => decide (y = turnC x)) = 1 := fun x hx => diff_once hgA hgB hx
  have hks : ∀ x ∈ diffL a.cs b.cs, 1 ≤ x.kind ∧ x.kind ≤ 7 := fun x hx => diff_kinds hx
  simp only at hS
  generalize diffL a.cs b.cs = D at *
  generalize diffL b.cs a.cs = M at *
  (refine LWP.seq <| LWP.seq <| LWP.region (by kernel_rfl) <| kmv rfl <| kne rfl rfl (r := false) rfl <| kmv rfl <| gmv rfl rfl rfl <| K.neq rfl rfl (r := false) rfl (.taken rfl rfl) ?_; refine kpf rfl rfl <| RunK.nil <| LWP.condF rfl ?_; refine LWP.skip ?_; refine LWP.seq <| LWP.region (by kernel_rfl) <| kfa rfl rfl ?_; refine kl1 rfl rfl rfl <| kfa rfl rfl ?_; refine kl1 rfl rfl rfl <| K.build rfl rfl (by exact rfl) (by exact nl2 rfl rfl rfl) .plain ?_; refine K.alloc rfl .plain ?_; refine K.storeAll rfl rfl rfl rfl rfl rfl .plain ?_; refine RunK.nil <| LWP.seq <| LWP.seq <| LWP.region (by kernel_rfl) <| kmv rfl <| K.lenX rfl SliceT.h rfl .plain ?_; refine keq rfl rfl rfl <| K.loadAll rfl rfl rfl .plain ?_; refine K.loadAll rfl rfl rfl .plain ?_; refine kca rfl rfl hS <| K.neqB rfl rfl (r := false) (by simp) .plain <| kmv rfl <| gmv rfl rfl rfl <| K.lenX rfl SliceT.h rfl (.taken rfl rfl) ?_; refine gmv rfl rfl rfl <| K.lenX rfl SliceT.h rfl (.taken rfl rfl) ?_; refine K.neq rfl rfl (r := false) (by rw [hlen]; simp) (.taken rfl rfl) ?_; refine kpf rfl rfl <| RunK.nil <| LWP.condF rfl ?_; refine LWP.skip ?_; refine LWP.seq <| LWP.region (by kernel_rfl) <| K.buildArr rfl rfl (by exact rfl) rfl .plain ?_; refine K.alloc rfl .plain ?_; refine K.storeAll rfl rfl rfl rfl rfl rfl .plain ?_; refine RunK.nil <| LWP.seq <| LWP.seq <| LWP.region (by kernel_rfl) <| kas rfl <| RunK.nil <| LWP.block ?_)
  refine LWP.loop (fun m σ => ∃ i : Nat, i ≤ D.length ∧ m = D.length - i ∧ σ = ⟨[(5, Vs ld D.length lc), (7, Vs td M.length tc), (10, Lp 10), (11, Ln .i64 (i : Nat))], [tnB 10], Z⟩) D.length
    ⟨⟨[(5, Vs ld D.length lc), (7, Vs td M.length tc), (10, Lp 10), (11, Ln .i64 (0 : Nat))], [tnB 10], Z⟩, Le.of (by exact ⟨rfl, rfl, rfl, rfl, trivial⟩) (by exact ⟨rfl, trivial⟩) (by exact rfl) (by exact rfl) (by repeat' (first | refine all_cons_true ?_ ?_ | rfl | exact bytes_inUse | exact vals_inUse | exact mid_inUse rfl)), 0, by omega, by omega, rfl⟩ ?_
  rintro m σ ⟨i, hi, rfl, rfl⟩
  by_cases hlt : i < D.length
  · obtain ⟨x, hx⟩ : ∃ x, D[i]? = some x := ⟨_, List.getElem?_eq_getElem hlt⟩
    obtain ⟨hk1, hk7⟩ := hks x (List.mem_of_getElem? hx)
    have hone := honce x (List.mem_of_getElem? hx)
    obtain ⟨lb, lo, larr, lel, lfr, rfl, hLX, l1, l2, l3⟩ := hLin.at hx
    have hio : lo + Int.toNat (i : Int) * 3 = lo + i * 3 := by simp
    have hti : 0 + Int.toNat x.kind * 1 = x.kind.toNat := by omega
    have htc := turn_at hk1 hk7
    (refine LWP.seq <| LWP.seq <| LWP.region (by kernel_rfl) <| kmv rfl <| kmv rfl <| K.lenX rfl SliceT.h rfl .plain ?_; refine klt rfl rfl (decide_eq_true (by omega)) <| RunK.nil <| LWP.condT rfl ?_; refine LWP.skip ?_; refine LWP.seq <| LWP.block <| LWP.seq <| LWP.region (by kernel_rfl) <| kas rfl <| RunK.nil <| LWP.seq <| LWP.seq <| LWP.region (by kernel_rfl) <| kas rfl <| RunK.nil <| LWP.block ?_)
    refine LWP.loop (fun m σ => ∃ k : Nat, k ≤ M.length ∧ m = M.length - k ∧ σ = ⟨[(5, Vs (some ⟨lb, lo, none⟩) D.length lc), (7, Vs td M.length tc), (10, Lp 10), (11, Ln .i64 (i : Nat)), (12, Ln .i64 ((M.take k).countP (fun y => decide (y = turnC x)) : Nat)), (13, Ln .i64 (k : Nat))], [tnB 10], Z⟩) M.length
      ⟨⟨[(5, Vs (some ⟨lb, lo, none⟩) D.length lc), (7, Vs td M.length tc), (10, Lp 10), (11, Ln .i64 (i : Nat)), (12, Ln .i64 (0 : Nat)), (13, Ln .i64 (0 : Nat))], [tnB 10], Z⟩, Le.of (by exact ⟨rfl, rfl, rfl, rfl, rfl, rfl, trivial⟩) (by exact ⟨rfl, trivial⟩) (by exact rfl) (by exact rfl) (by repeat' (first | refine all_cons_true ?_ ?_ | rfl | exact bytes_inUse | exact vals_inUse | exact mid_inUse rfl)), 0, by omega, by omega, rfl⟩ ?_
    rintro m σ ⟨k, hk, rfl, rfl⟩
    by_cases hkl : k < M.length
    · obtain ⟨y, hy⟩ : ∃ y, M[k]? = some y := ⟨_, List.getElem?_eq_getElem hkl⟩
      obtain ⟨mb, mo, marr, mel, mfr, rfl, hMX, m1, m2, m3⟩ := hMin.at hy
      have hko : mo + Int.toNat (k : Int) * 3 = mo + k * 3 := by simp
      have hcs := count_snoc hy (fun y => decide (y = turnC x))
      have hcl : (M.take k).countP (fun y => decide (y = turnC x)) ≤ M.length := Nat.le_trans List.countP_le_length (by rw [List.length_take]; omega)
      have htx : y = turnC x ↔ y.kind = turnK x.kind ∧ y.comp = x.comp ∧ y.fld = x.fld := by
        obtain ⟨yk, yc, yf⟩ := y
        unfold turnC
        simp
      generalize (M.take k).countP (fun y => decide (y = turnC x)) = cn at *
      by_cases h1 : y.kind = turnK x.kind
      · by_cases h2 : y.comp = x.comp
        · by_cases h3 : y.fld = x.fld
          · rw [if_pos (decide_eq_true (htx.2 ⟨h1, h2, h3⟩))] at hcs
            have h3e : (y.fld == x.fld) = true := beq_iff_eq.2 h3
            ((refine LWP.seq <| LWP.seq <| LWP.region (by kernel_rfl) <| kmv rfl <| kmv rfl <| K.lenX rfl SliceT.h rfl .plain ?_; refine klt rfl rfl (decide_eq_true (by omega)) <| RunK.nil <| LWP.condT rfl ?_; refine LWP.skip ?_; refine LWP.seq <| LWP.block <| LWP.seq <| LWP.draws mixed (by kernel_rfl) <| kmv rfl <| kmv rfl <| K.indexX rfl rfl SliceT.h (by omega) hko .plain <| K.fieldAddrX rfl rfl .plain ?_; refine K.loadX rfl hMX rfl m1 .plain <| kmv rfl <| kmv rfl <| K.indexX rfl rfl SliceT.h (by omega) hio .plain <| K.fieldAddrX rfl rfl .plain ?_; refine K.loadX rfl hLX rfl l1 .plain <| K.indexArr rfl rfl (by omega) hti .plain ?_; refine kl1 rfl rfl htc <| keq rfl rfl (r := true) (beq_iff_eq.2 h1) <| kmv rfl <| gmv rfl rfl rfl <| gmv rfl rfl rfl <| K.indexX rfl rfl SliceT.h (by omega) hko (.taken rfl rfl) ?_; refine K.fieldAddrX rfl rfl (.taken rfl rfl) ?_; refine K.loadX rfl hMX rfl m2 (.taken rfl rfl) ?_; refine gmv rfl rfl rfl <| gmv rfl rfl rfl <| K.indexX rfl rfl SliceT.h (by omega) hio (.taken rfl rfl) ?_; refine K.fieldAddrX rfl rfl (.taken rfl rfl) ?_; refine K.loadX rfl hLX rfl l2 (.taken rfl rfl) ?_); (refine K.eql rfl rfl (r := true) (beq_iff_eq.2 h2) (.taken rfl rfl) ?_; refine kpt rfl rfl <| kmv rfl <| gmv rfl rfl rfl <| gmv rfl rfl rfl <| K.indexX rfl rfl SliceT.h (by omega) hko (.taken rfl rfl) ?_; refine K.fieldAddrX rfl rfl (.taken rfl rfl) ?_; refine K.loadX rfl hMX rfl m3 (.taken rfl rfl) ?_; refine gmv rfl rfl rfl <| gmv rfl rfl rfl <| K.indexX rfl rfl SliceT.h (by omega) hio (.taken rfl rfl) ?_; refine K.fieldAddrX rfl rfl (.taken rfl rfl) ?_; refine K.loadX rfl hLX rfl l3 (.taken rfl rfl) ?_; refine K.strEq rfl rfl (strs_eq (r := true) h3e) (.taken rfl rfl) ?_; refine kpt rfl rfl <| RunK.nil <| And.intro (by kernel_rfl) ?_; refine LWP.condT rfl ?_; refine LWP.region (by kernel_rfl) <| kmv rfl <| kad rfl rfl (wrap_i64 (by omega)) <| kas rfl <| RunK.nil <| LWP.region (by kernel_rfl) <| kmv rfl <| kad rfl rfl (wrap_i64 (by omega)) <| kas rfl <| RunK.nil ?_))
            exact ⟨_, ⟨[(5, Vs (some ⟨lb, lo, none⟩) D.length lc), (7, Vs (some ⟨mb, mo, none⟩) M.length tc), (10, Lp 10), (11, Ln .i64 (i : Nat)), (12, Ln .i64 (cn + 1 : Nat)), (13, Ln .i64 (k + 1 : Nat))], [tnB 10], Z⟩, by omega, Le.of (by exact ⟨rfl, rfl, rfl, rfl, rfl, rfl, trivial⟩) (by exact ⟨rfl, trivial⟩) (by exact rfl) (by exact rfl) (by repeat' (first | refine all_cons_true ?_ ?_ | rfl | exact bytes_inUse | exact vals_inUse | exact mid_inUse rfl)), k + 1, by omega, rfl, by rw [hcs]⟩
          · rw [if_neg (by rw [decide_eq_false (fun h => h3 (htx.1 h).2.2)]; decide)] at hcs
            have h3e : (y.fld == x.fld) = false := beq_eq_false_iff_ne.2 h3
            ((refine LWP.seq <| LWP.seq <| LWP.region (by kernel_rfl) <| kmv rfl <| kmv rfl <| K.lenX rfl SliceT.h rfl .plain ?_; refine klt rfl rfl (decide_eq_true (by omega)) <| RunK.nil <| LWP.condT rfl ?_; refine LWP.skip ?_; refine LWP.seq <| LWP.block <| LWP.seq <| LWP.draws mixed (by kernel_rfl) <| kmv rfl <| kmv rfl <| K.indexX rfl rfl SliceT.h (by omega) hko .plain <| K.fieldAddrX rfl rfl .plain ?_; refine K.loadX rfl hMX rfl m1 .plain <| kmv rfl <| kmv rfl <| K.indexX rfl rfl SliceT.h (by omega) hio .plain <| K.fieldAddrX rfl rfl .plain ?_; refine K.loadX rfl hLX rfl l1 .plain <| K.indexArr rfl rfl (by omega) hti .plain ?_; refine kl1 rfl rfl htc <| keq rfl rfl (r := true) (beq_iff_eq.2 h1) <| kmv rfl <| gmv rfl rfl rfl <| gmv rfl rfl rfl <| K.indexX rfl rfl SliceT.h (by omega) hko (.taken rfl rfl) ?_; refine K.fieldAddrX rfl rfl (.taken rfl rfl) ?_; refine K.loadX rfl hMX rfl m2 (.taken rfl rfl) ?_; refine gmv rfl rfl rfl <| gmv rfl rfl rfl <| K.indexX rfl rfl SliceT.h (by omega) hio (.taken rfl rfl) ?_; refine K.fieldAddrX rfl rfl (.taken rfl rfl) ?_; refine K.loadX rfl hLX rfl l2 (.taken rfl rfl) ?_); (refine K.eql rfl rfl (r := true) (beq_iff_eq.2 h2) (.taken rfl rfl) ?_; refine kpt rfl rfl <| kmv rfl <| gmv rfl rfl rfl <| gmv rfl rfl rfl <| K.indexX rfl rfl SliceT.h (by omega) hko (.taken rfl rfl) ?_; refine K.fieldAddrX rfl rfl (.taken rfl rfl) ?_; refine K.loadX rfl hMX rfl m3 (.taken rfl rfl) ?_; refine gmv rfl rfl rfl <| gmv rfl rfl rfl <| K.indexX rfl rfl SliceT.h (by omega) hio (.taken rfl rfl) ?_; refine K.fieldAddrX rfl rfl (.taken rfl rfl) ?_; refine K.loadX rfl hLX rfl l3 (.taken rfl rfl) ?_; refine K.strEq rfl rfl (strs_eq (r := false) h3e) (.taken rfl rfl) ?_; refine kpt rfl rfl <| RunK.nil <| And.intro (by kernel_rfl) ?_; refine LWP.condF rfl ?_; refine LWP.skip ?_; refine LWP.region (by kernel_rfl) <| kmv rfl <| kad rfl rfl (wrap_i64 (by omega)) <| kas rfl <| RunK.nil ?_))
            exact ⟨_, ⟨[(5, Vs (some ⟨lb, lo, none⟩) D.length lc), (7, Vs (some ⟨mb, mo, none⟩) M.length tc), (10, Lp 10), (11, Ln .i64 (i : Nat)), (12, Ln .i64 (cn : Nat)), (13, Ln .i64 (k + 1 : Nat))], [tnB 10], Z⟩, by omega, Le.of (by exact ⟨rfl, rfl, rfl, rfl, rfl, rfl, trivial⟩) (by exact ⟨rfl, trivial⟩) (by exact rfl) (by exact rfl) (by repeat' (first | refine all_cons_true ?_ ?_ | rfl | exact bytes_inUse | exact vals_inUse | exact mid_inUse rfl)), k + 1, by omega, rfl, by rw [hcs]; rfl⟩
        · rw [if_neg (by rw [decide_eq_false (fun h => h2 (htx.1 h).2.1)]; decide)] at hcs
          (refine LWP.seq <| LWP.seq <| LWP.region (by kernel_rfl) <| kmv rfl <| kmv rfl <| K.lenX rfl SliceT.h rfl .plain ?_; refine klt rfl rfl (decide_eq_true (by omega)) <| RunK.nil <| LWP.condT rfl ?_; refine LWP.skip ?_; refine LWP.seq <| LWP.block <| LWP.seq <| LWP.draws mixed (by kernel_rfl) <| kmv rfl <| kmv rfl <| K.indexX rfl rfl SliceT.h (by omega) hko .plain <| K.fieldAddrX rfl rfl .plain ?_; refine K.loadX rfl hMX rfl m1 .plain <| kmv rfl <| kmv rfl <| K.indexX rfl rfl SliceT.h (by omega) hio .plain <| K.fieldAddrX rfl rfl .plain ?_; refine K.loadX rfl hLX rfl l1 .plain <| K.indexArr rfl rfl (by omega) hti .plain ?_; refine kl1 rfl rfl htc <| keq rfl rfl (r := true) (beq_iff_eq.2 h1) <| kmv rfl <| gmv rfl rfl rfl <| gmv rfl rfl rfl <| K.indexX rfl rfl SliceT.h (by omega) hko (.taken rfl rfl) ?_; refine K.fieldAddrX rfl rfl (.taken rfl rfl) ?_; refine K.loadX rfl hMX rfl m2 (.taken rfl rfl) ?_; refine gmv rfl rfl rfl <| gmv rfl rfl rfl <| K.indexX rfl rfl SliceT.h (by omega) hio (.taken rfl rfl) ?_; refine K.fieldAddrX rfl rfl (.taken rfl rfl) ?_; refine K.loadX rfl hLX rfl l2 (.taken rfl rfl) ?_; refine K.eql rfl rfl (r := false) (beq_eq_false_iff_ne.2 h2) (.taken rfl rfl) ?_; refine kpt rfl rfl <| kmv rfl <| RunK.passed rfl rfl rfl <| RunK.passed rfl rfl rfl <| RunK.passed rfl rfl rfl <| RunK.passed rfl rfl rfl <| RunK.passed rfl rfl rfl <| RunK.passed rfl rfl rfl <| RunK.passed rfl rfl rfl <| RunK.passed rfl rfl rfl <| RunK.passed rfl rfl rfl <| RunK.passed rfl rfl rfl <| RunK.passed rfl rfl rfl <| kpf rfl rfl ?_; refine RunK.nil <| And.intro (by kernel_rfl) ?_; refine LWP.condF rfl ?_; refine LWP.skip ?_; refine LWP.region (by kernel_rfl) <| kmv rfl <| kad rfl rfl (wrap_i64 (by omega)) <| kas rfl <| RunK.nil ?_)
          exact ⟨_, ⟨[(5, Vs (some ⟨lb, lo, none⟩) D.length lc), (7, Vs (some ⟨mb, mo, none⟩) M.length tc), (10, Lp 10), (11, Ln .i64 (i : Nat)), (12, Ln .i64 (cn : Nat)), (13, Ln .i64 (k + 1 : Nat))], [tnB 10], Z⟩, by omega, Le.of (by exact ⟨rfl, rfl, rfl, rfl, rfl, rfl, trivial⟩) (by exact ⟨rfl, trivial⟩) (by exact rfl) (by exact rfl) (by repeat' (first | refine all_cons_true ?_ ?_ | rfl | exact bytes_inUse | exact vals_inUse | exact mid_inUse rfl)), k + 1, by omega, rfl, by rw [hcs]; rfl⟩
      · rw [if_neg (by rw [decide_eq_false (fun h => h1 (htx.1 h).1)]; decide)] at hcs
        (refine LWP.seq <| LWP.seq <| LWP.region (by kernel_rfl) <| kmv rfl <| kmv rfl <| K.lenX rfl SliceT.h rfl .plain ?_; refine klt rfl rfl (decide_eq_true (by omega)) <| RunK.nil <| LWP.condT rfl ?_; refine LWP.skip ?_; refine LWP.seq <| LWP.block <| LWP.seq <| LWP.draws mixed (by kernel_rfl) <| kmv rfl <| kmv rfl <| K.indexX rfl rfl SliceT.h (by omega) hko .plain <| K.fieldAddrX rfl rfl .plain ?_; refine K.loadX rfl hMX rfl m1 .plain <| kmv rfl <| kmv rfl <| K.indexX rfl rfl SliceT.h (by omega) hio .plain <| K.fieldAddrX rfl rfl .plain ?_; refine K.loadX rfl hLX rfl l1 .plain <| K.indexArr rfl rfl (by omega) hti .plain ?_; refine kl1 rfl rfl htc <| keq rfl rfl (r := false) (beq_eq_false_iff_ne.2 h1) <| kmv rfl <| RunK.passed rfl rfl rfl <| RunK.passed rfl rfl rfl <| RunK.passed rfl rfl rfl <| RunK.passed rfl rfl rfl <| RunK.passed rfl rfl rfl <| RunK.passed rfl rfl rfl <| RunK.passed rfl rfl rfl <| RunK.passed rfl rfl rfl <| RunK.passed rfl rfl rfl <| RunK.passed rfl rfl rfl <| RunK.passed rfl rfl rfl ?_; refine kpf rfl rfl <| kmv rfl <| RunK.passed rfl rfl rfl <| RunK.passed rfl rfl rfl <| RunK.passed rfl rfl rfl <| RunK.passed rfl rfl rfl <| RunK.passed rfl rfl rfl <| RunK.passed rfl rfl rfl <| RunK.passed rfl rfl rfl <| RunK.passed rfl rfl rfl <| RunK.passed rfl rfl rfl <| RunK.passed rfl rfl rfl <| RunK.passed rfl rfl rfl <| kpf rfl rfl ?_; refine RunK.nil <| And.intro (by kernel_rfl) ?_; refine LWP.condF rfl ?_; refine LWP.skip ?_; refine LWP.region (by kernel_rfl) <| kmv rfl <| kad rfl rfl (wrap_i64 (by omega)) <| kas rfl <| RunK.nil ?_)
        exact ⟨_, ⟨[(5, Vs (some ⟨lb, lo, none⟩) D.length lc), (7, Vs (some ⟨mb, mo, none⟩) M.length tc), (10, Lp 10), (11, Ln .i64 (i : Nat)), (12, Ln .i64 (cn : Nat)), (13, Ln .i64 (k + 1 : Nat))], [tnB 10], Z⟩, by omega, Le.of (by exact ⟨rfl, rfl, rfl, rfl, rfl, rfl, trivial⟩) (by exact ⟨rfl, trivial⟩) (by exact rfl) (by exact rfl) (by repeat' (first | refine all_cons_true ?_ ?_ | rfl | exact bytes_inUse | exact vals_inUse | exact mid_inUse rfl)), k + 1, by omega, rfl, by rw [hcs]; rfl⟩
    · have e : k = M.length := by omega
      subst e
      rw [List.take_length, hone]
      (refine LWP.seq <| LWP.seq <| LWP.region (by kernel_rfl) <| kmv rfl <| kmv rfl <| K.lenX rfl SliceT.h rfl .plain ?_; refine klt rfl rfl (decide_eq_false (by omega)) <| RunK.nil <| LWP.condF rfl ?_; refine LWP.exit <| LWP.seq <| LWP.region (by kernel_rfl) <| kmv rfl <| kne rfl rfl (r := false) rfl <| RunK.nil <| LWP.condF rfl ?_; refine LWP.skip ?_; refine LWP.region (by kernel_rfl) <| kmv rfl <| kad rfl rfl (wrap_i64 (by omega)) <| kas rfl <| RunK.nil ?_)
      exact ⟨_, ⟨[(5, Vs (some ⟨lb, lo, none⟩) D.length lc), (7, Vs td M.length tc), (10, Lp 10), (11, Ln .i64 (i + 1 : Nat))], [tnB 10], Z⟩, by omega, Le.of (by exact ⟨rfl, rfl, rfl, rfl, trivial⟩) (by exact ⟨rfl, trivial⟩) (by exact rfl) (by exact rfl) (by repeat' (first | refine all_cons_true ?_ ?_ | rfl | exact bytes_inUse | exact vals_inUse | exact mid_inUse rfl)), i + 1, by omega, rfl, rfl⟩
  have e : i = D.length := by omega
  subst e
  (refine LWP.seq <| LWP.seq <| LWP.region (by kernel_rfl) <| kmv rfl <| kmv rfl <| K.lenX rfl SliceT.h rfl .plain ?_; refine klt rfl rfl (decide_eq_false (by omega)) <| RunK.nil <| LWP.condF rfl ?_; refine LWP.exit <| LWP.seq <| LWP.region (by kernel_rfl) <| kas rfl <| RunK.nil <| LWP.ret ?_)
  exact ⟨[_], ⟨rfl, trivial⟩, rfl⟩
end Go.Proofs.YtfcaebhofjjjnaaDoor
end
section
namespace Go.Lg.Fld
open Go Go.Lg
theorem any_snoc {α : Type} {l : List α} {i : Nat} {x : α} (h : l[i]? = some x) (p : α → Bool) : (l.take (i + 1)).any p = ((l.take i).any p || p x) := by
  rw [take_snoc h, List.any_append]
  simp
end Go.Lg.Fld
namespace Go.Proofs.YtfcaebhofjjjnaaDoor
open Go Go.Lg Go.Lg.Fld
set_option maxRecDepth 100000
variable (X : Nat → Option Obj)
set_option maxHeartbeats 12800000 in
theorem DiffKept_spec (a b : Sc) (ad bd : Option Addr) (ca cb : Nat) (ha : CompsIn X ad a.cs) (hb : CompsIn X bd b.cs) (hNa : NamesIn a.cs) (hNb : NamesIn b.cs) :
    PSpec Tryd.prog X 6 [Sx a.ver ad a.cs.length ca, Sx b.ver bd b.cs.length cb] (Lb true) := by
  have hW := awake9_spec X
  have g1 := great9_spec X a.ver ad ca a.cs ha (greatB9 a.cs) rfl
  have g2 := great9_spec X b.ver bd cb b.cs hb (greatB9 b.cs) rfl
  refine PSpec.intro Tryd.func6 rfl (by kernel_rfl) rfl rfl ?_
  intro C
  cases hg : greatB9 a.cs with
  | true =>
    rw [hg] at g1
    (refine LWP.seq <| LWP.region (by kernel_rfl) <| K.box rfl rfl rfl .plain <| K.box rfl rfl rfl .plain <| kas rfl <| RunK.nil <| LWP.seq <| LWP.seq <| LWP.region (by kernel_rfl) <| kca rfl rfl (hW) <| K.not rfl rfl .plain <| RunK.nil <| LWP.condF rfl ?_; refine LWP.skip ?_; refine LWP.seq <| LWP.seq <| LWP.region (by kernel_rfl) <| K.loadAll rfl rfl rfl .plain ?_; refine kca rfl rfl g1 <| kmv rfl <| RunK.passed rfl rfl rfl <| RunK.passed rfl rfl rfl <| kpt rfl rfl <| RunK.nil <| LWP.condT rfl ?_; refine LWP.seq <| LWP.region (by kernel_rfl) <| kas rfl <| RunK.nil <| LWP.ret ?_)
    exact ⟨[_], ⟨rfl, trivial⟩, rfl⟩
  | false =>
  rw [hg] at g1
  cases hg2 : greatB9 b.cs with
  | true =>
    rw [hg2] at g2
    (refine LWP.seq <| LWP.region (by kernel_rfl) <| K.box rfl rfl rfl .plain <| K.box rfl rfl rfl .plain <| kas rfl <| RunK.nil <| LWP.seq <| LWP.seq <| LWP.region (by kernel_rfl) <| kca rfl rfl (hW) <| K.not rfl rfl .plain <| RunK.nil <| LWP.condF rfl ?_; refine LWP.skip ?_; refine LWP.seq <| LWP.seq <| LWP.region (by kernel_rfl) <| K.loadAll rfl rfl rfl .plain ?_; refine kca rfl rfl g1 <| kmv rfl <| K.loadAll rfl rfl rfl (.taken rfl rfl) ?_; refine gca rfl rfl g2 rfl rfl <| kpf rfl rfl <| RunK.nil <| LWP.condT rfl ?_; refine LWP.seq <| LWP.region (by kernel_rfl) <| kas rfl <| RunK.nil <| LWP.ret ?_)
    exact ⟨[_], ⟨rfl, trivial⟩, rfl⟩
  | false =>
  rw [hg2] at g2
  have hsa := greatB9_small hg
  have hsb := greatB9_small hg2
  have hna := hNa.names hsa
  have hnb := hNb.names hsb
  have ob := of_both X a b ad bd ca cb ha hb hsa hsb hna hnb
  (refine LWP.seq <| LWP.region (by kernel_rfl) <| K.box rfl rfl rfl .plain <| K.box rfl rfl rfl .plain <| kas rfl <| RunK.nil <| LWP.seq <| LWP.seq <| LWP.region (by kernel_rfl) <| kca rfl rfl (hW) <| K.not rfl rfl .plain <| RunK.nil <| LWP.condF rfl ?_; refine LWP.skip ?_; refine LWP.seq <| LWP.seq <| LWP.region (by kernel_rfl) <| K.loadAll rfl rfl rfl .plain ?_; refine kca rfl rfl g1 <| kmv rfl <| K.loadAll rfl rfl rfl (.taken rfl rfl) ?_; refine gca rfl rfl g2 rfl rfl <| kpf rfl rfl <| RunK.nil <| LWP.condF rfl ?_; refine LWP.skip ?_; refine LWP.seq ?_)
  repeat refine LWP.seq ?_
  refine LWP.meetL (fun σ => ∃ (Y : Nat → Option Obj) (ld : Option Addr) (lc : Nat), (∀ b o, X b = some o → Y b = some o) ∧ ChIn Y ld (ofL a b) ∧ σ = d2St a b ad bd ca cb [(5, Vs ld (ofL a b).length lc), (6, Ln .i64 (chkAB a b))] [] Y) ?_ ?_
  · rcases ob with ⟨h0, p⟩ | p
    · (refine LWP.region (by kernel_rfl) <| K.loadAll rfl rfl rfl .plain ?_; refine K.loadAll rfl rfl rfl .plain ?_; refine K.callM [] [] (p) rfl rfl (by exact trivial) rfl rfl rfl rfl rfl (by exact .nil) .plain <| kmv rfl <| kex rfl rfl <| kex rfl rfl <| kas rfl <| kas rfl <| RunK.nil ?_)
      exact Leads.here (σ' := d2St a b ad bd ca cb [(5, Vs none 0 0), (6, Ln .i64 (chkAB a b))] [] X) (Le.of (by exact ⟨rfl, rfl, rfl, rfl, trivial⟩) (by exact ⟨rfl, rfl, trivial⟩) (by exact rfl) (by exact rfl) (by repeat' (first | refine all_cons_true ?_ ?_ | rfl | exact bytes_inUse | exact vals_inUse | exact mid_inUse rfl))) ⟨X, none, 0, fun _ _ h => h, rows_none (by rw [h0]; rfl), by rw [h0]; rfl⟩
    · (refine LWP.region (by kernel_rfl) <| K.loadAll rfl rfl rfl .plain ?_; refine K.loadAll rfl rfl rfl .plain ?_; refine K.callMp [(1000001, 600)] (.tup [.one (.slc 600 0 (ofL a b).length 3), Sn .i64 (chkAB a b)]) [dhB 600 (ofL a b)] (p) rfl rfl (by exact trivial) rfl rfl rfl rfl rfl (by exact (.box rfl (Box.ren_vals _ _ _ _) .nil)) .plain <| kmv rfl <| kex rfl rfl <| kex rfl rfl <| kas rfl <| kas rfl <| RunK.nil ?_)
      refine Leads.le (σ' := ⟨[(5, .sv (.one (.slc 600 0 (ofL a b).length 3))), (2, Lp 2), (3, Lp 3), (6, Ln .i64 (chkAB a b))], [dhB 600 (ofL a b), sxB 2 a.ver ad a.cs.length ca, sxB 3 b.ver bd b.cs.length cb], X⟩) (Le.of (by exact ⟨rfl, rfl, rfl, rfl, trivial⟩) (by exact ⟨rfl, rfl, rfl, trivial⟩) (by exact rfl) (by exact rfl) (by repeat' (first | refine all_cons_true ?_ ?_ | rfl | exact bytes_inUse | exact vals_inUse | exact mid_inUse rfl))) ?_
      refine Leads.freeze rfl rfl rfl fun b1 c1 a1 f1 hn _ _ _ hsp => ?_
      exact Leads.le (Le.of (by exact ⟨rfl, rfl, rfl, rfl, trivial⟩) (by exact ⟨rfl, rfl, trivial⟩) (by exact rfl) (by exact rfl) (by repeat' (first | refine all_cons_true ?_ ?_ | rfl | exact bytes_inUse | exact vals_inUse | exact mid_inUse rfl))) (Leads.done ⟨_, some ⟨b1, 0, none⟩, c1, withBlock_old hn, ch_frozen hsp, rfl⟩)
  rintro σ ⟨Y1, ld, lc, hY1, hLin, rfl⟩
  replace ha := ha.mono hY1
  replace hb := hb.mono hY1
  have kb := kept_both Y1 a b ad bd ca cb ha hb hsa hsb hna hnb
  repeat refine LWP.seq ?_
  refine LWP.meetL (fun σ => ∃ (Y : Nat → Option Obj) (kd : Option Addr) (kc : Nat), (∀ b o, Y1 b = some o → Y b = some o) ∧ IntIn Y kd (keptA a b) ∧ σ = d2St a b ad bd ca cb [(5, Vs ld (ofL a b).length lc), (6, Ln .i64 (chkAB a b)), (7, Vs kd (keptA a b).length kc)] [] Y) ?_ ?_
  · rcases kb with ⟨h0, p⟩ | p
    · (refine LWP.region (by kernel_rfl) <| K.loadAll rfl rfl rfl .plain ?_; refine K.loadAll rfl rfl rfl .plain ?_; refine K.callM [] [] (p) rfl rfl (by exact trivial) rfl rfl rfl rfl rfl (by exact .nil) .plain <| kas rfl <| RunK.nil ?_)
      exact Leads.here (σ' := d2St a b ad bd ca cb [(5, Vs ld (ofL a b).length lc), (6, Ln .i64 (chkAB a b)), (7, Vs none 0 0)] [] Y1) (Le.of (by exact ⟨rfl, rfl, rfl, rfl, rfl, trivial⟩) (by exact ⟨rfl, rfl, trivial⟩) (by exact rfl) (by exact rfl) (by repeat' (first | refine all_cons_true ?_ ?_ | rfl | exact bytes_inUse | exact vals_inUse | exact mid_inUse rfl))) ⟨Y1, none, 0, fun _ _ h => h, rows_none (by rw [h0]; rfl), by rw [h0]; rfl⟩
    · (refine LWP.region (by kernel_rfl) <| K.loadAll rfl rfl rfl .plain ?_; refine K.loadAll rfl rfl rfl .plain ?_; refine K.callMp [(1000001, 600)] (.sv (.one (.slc 600 0 (keptA a b).length 1))) [kpB 600 (keptA a b)] (p) rfl rfl (by exact trivial) rfl rfl rfl rfl rfl (by exact (.box rfl (Box.ren_vals _ _ _ _) .nil)) .plain <| kas rfl <| RunK.nil ?_)
      refine Leads.le (σ' := ⟨[(7, .sv (.one (.slc 600 0 (keptA a b).length 1))), (2, Lp 2), (3, Lp 3), (5, Vs ld (ofL a b).length lc), (6, Ln .i64 (chkAB a b))], [kpB 600 (keptA a b), sxB 2 a.ver ad a.cs.length ca, sxB 3 b.ver bd b.cs.length cb], Y1⟩) (Le.of (by exact ⟨rfl, rfl, rfl, rfl, rfl, trivial⟩) (by exact ⟨rfl, rfl, rfl, trivial⟩) (by exact rfl) (by exact rfl) (by repeat' (first | refine all_cons_true ?_ ?_ | rfl | exact bytes_inUse | exact vals_inUse | exact mid_inUse rfl))) ?_
      refine Leads.freeze rfl rfl rfl fun b1 c1 a1 f1 hn _ _ _ hsp => ?_
      exact Leads.le (Le.of (by exact ⟨rfl, rfl, rfl, rfl, rfl, trivial⟩) (by exact ⟨rfl, rfl, trivial⟩) (by exact rfl) (by exact rfl) (by repeat' (first | refine all_cons_true ?_ ?_ | rfl | exact bytes_inUse | exact vals_inUse | exact mid_inUse rfl))) (Leads.done ⟨_, some ⟨b1, 0, none⟩, c1, withBlock_old hn, int_frozen hsp, rfl⟩)
  rintro σ ⟨Z, kd, kc, hZ, hKin, rfl⟩
  replace ha := ha.mono hZ
  replace hb := hb.mono hZ
  replace hLin := hLin.mono hZ
  by_cases hz : chkAB a b = 0
  case neg =>
    have e1 : ofL a b = [] := if_neg hz
    have e2 : keptA a b = [] := if_neg hz
    rw [e1, e2]
    have hnz : (chkAB a b != 0) = true := bne_iff_ne.2 hz
    (refine LWP.seq <| LWP.seq <| LWP.region (by kernel_rfl) <| kmv rfl <| kne rfl rfl hnz <| RunK.nil <| LWP.condT rfl ?_; refine LWP.seq <| LWP.region (by kernel_rfl) <| kmv rfl <| K.lenX rfl SliceT.h rfl .plain ?_; refine keq rfl rfl rfl <| kas rfl <| RunK.nil <| LWP.ret ?_)
    exact ⟨[_], ⟨rfl, trivial⟩, rfl⟩
  obtain ⟨hza, hzb⟩ := chkAB_zero.1 hz
  have hgA := chk_good hza
  have hgB := chk_good hzb
  rw [show ofL a b = diffL a.cs b.cs from if_pos hz] at hLin ⊢
  rw [show keptA a b = keptL a.cs b.cs from if_pos hz] at hKin ⊢
  rw [hz]
  have hDl : (diffL a.cs b.cs).length ≤ 60 * 24 := up_len hsa.2 hsb.2 24
  have hKl : (keptL a.cs b.cs).length + (diffL a.cs b.cs).countP (fun x => decide (x.kind = 2)) = a.cs.length := kept_len hgA hgB
  have hk : ∀ x ∈ diffL a.cs b.cs, (keptL a.cs b.cs).any (fun id => id == x.comp) = bothK x := fun x hx => diff_kept hgA hx
  have hrise : ∀ (i : Nat) (x y : Ch), (diffL a.cs b.cs)[i]? = some x → (diffL a.cs b.cs)[i + 1]? = some y → x.comp ≤ y.comp := fun i x y hx hy => diff_rise_at hx hy
  have hal := hsa.1
  generalize diffL a.cs b.cs = D at *
  generalize keptL a.cs b.cs = Q at *
  (refine LWP.seq <| LWP.seq <| LWP.region (by kernel_rfl) <| kmv rfl <| kne rfl rfl (r := false) rfl <| RunK.nil <| LWP.condF rfl ?_; refine LWP.skip ?_; refine LWP.seq <| LWP.region (by kernel_rfl) <| kas rfl <| RunK.nil <| LWP.seq <| LWP.seq <| LWP.region (by kernel_rfl) <| kas rfl <| RunK.nil <| LWP.block ?_)
  refine LWP.loop (fun m σ => ∃ i : Nat, i ≤ D.length ∧ m = D.length - i ∧ σ = ⟨[(2, Lp 2), (5, Vs ld D.length lc), (7, Vs kd Q.length kc), (8, Ln .i64 (((D.take i).countP (fun x => decide (x.kind = 2))) : Nat)), (9, Ln .i64 (i : Nat))], [sxB 2 a.ver ad a.cs.length ca], Z⟩) D.length
    ⟨⟨[(2, Lp 2), (5, Vs ld D.length lc), (7, Vs kd Q.length kc), (8, Ln .i64 (0 : Nat)), (9, Ln .i64 (0 : Nat))], [sxB 2 a.ver ad a.cs.length ca], Z⟩, Le.of (by exact ⟨rfl, rfl, rfl, rfl, rfl, trivial⟩) (by exact ⟨rfl, trivial⟩) (by exact rfl) (by exact rfl) (by repeat' (first | refine all_cons_true ?_ ?_ | rfl | exact bytes_inUse | exact vals_inUse | exact mid_inUse rfl)), 0, by omega, by omega, rfl⟩ ?_
  rintro m σ ⟨i, hi, rfl, rfl⟩
  have hcl : ((D.take i).countP (fun x => decide (x.kind = 2))) ≤ D.length := Nat.le_trans List.countP_le_length (by rw [List.length_take]; omega)
  by_cases hlt : i < D.length
  · obtain ⟨x, hx⟩ : ∃ x, D[i]? = some x := ⟨_, List.getElem?_eq_getElem hlt⟩
    have hxk := hk x (List.mem_of_getElem? hx)
    obtain ⟨lb, lo, larr, lel, lfr, rfl, hLX, l1, l2, l3⟩ := hLin.at hx
    have hio : lo + Int.toNat (i : Int) * 3 = lo + i * 3 := by simp
    have hcs := count_snoc hx (fun x => decide (x.kind = 2))
    generalize ((D.take i).countP (fun x => decide (x.kind = 2))) = cn at *
    (refine LWP.seq <| LWP.seq <| LWP.region (by kernel_rfl) <| kmv rfl <| kmv rfl <| K.lenX rfl SliceT.h rfl .plain ?_; refine klt rfl rfl (decide_eq_true (by omega)) <| RunK.nil <| LWP.condT rfl ?_; refine LWP.skip ?_; refine LWP.seq <| LWP.block <| LWP.seq <| LWP.region (by kernel_rfl) <| kas rfl <| RunK.nil <| LWP.seq <| LWP.seq <| LWP.region (by kernel_rfl) <| kas rfl <| RunK.nil <| LWP.block ?_)
    refine LWP.loop (fun m σ => ∃ j : Nat, j ≤ Q.length ∧ m = Q.length - j ∧ σ = ⟨[(2, Lp 2), (5, Vs (some ⟨lb, lo, none⟩) D.length lc), (7, Vs kd Q.length kc), (8, Ln .i64 (cn : Nat)), (9, Ln .i64 (i : Nat)), (10, Lb ((Q.take j).any (fun id => id == x.comp))), (11, Ln .i64 (j : Nat))], [sxB 2 a.ver ad a.cs.length ca], Z⟩) Q.length
      ⟨⟨[(2, Lp 2), (5, Vs (some ⟨lb, lo, none⟩) D.length lc), (7, Vs kd Q.length kc), (8, Ln .i64 (cn : Nat)), (9, Ln .i64 (i : Nat)), (10, Lb false), (11, Ln .i64 (0 : Nat))], [sxB 2 a.ver ad a.cs.length ca], Z⟩, Le.of (by exact ⟨rfl, rfl, rfl, rfl, rfl, rfl, rfl, trivial⟩) (by exact ⟨rfl, trivial⟩) (by exact rfl) (by exact rfl) (by repeat' (first | refine all_cons_true ?_ ?_ | rfl | exact bytes_inUse | exact vals_inUse | exact mid_inUse rfl)), 0, by omega, by omega, rfl⟩ ?_
    rintro m σ ⟨j, hj, rfl, rfl⟩
    by_cases hjl : j < Q.length
    · obtain ⟨y, hy⟩ : ∃ y, Q[j]? = some y := ⟨_, List.getElem?_eq_getElem hjl⟩
      obtain ⟨kb, ko, karr, kel, kfr, rfl, hKX, k1⟩ := hKin.at hy
      have hko : ko + Int.toNat (j : Int) * 1 = ko + j * 1 := by simp
      have hsn := any_snoc hy (fun id => id == x.comp)
      cases hf : ((Q.take j).any (fun id => id == x.comp)) with
      | true =>
        rw [hf, Bool.true_or] at hsn
        (refine LWP.seq <| LWP.seq <| LWP.region (by kernel_rfl) <| kmv rfl <| kmv rfl <| K.lenX rfl SliceT.h rfl .plain ?_; refine klt rfl rfl (decide_eq_true (by omega)) <| RunK.nil <| LWP.condT rfl ?_; refine LWP.skip ?_; refine LWP.seq <| LWP.block <| LWP.draws mixed (by kernel_rfl) <| kmv rfl <| kmv rfl <| RunK.passed rfl rfl rfl <| RunK.passed rfl rfl rfl <| RunK.passed rfl rfl rfl <| RunK.passed rfl rfl rfl <| RunK.passed rfl rfl rfl <| RunK.passed rfl rfl rfl <| RunK.passed rfl rfl rfl <| RunK.passed rfl rfl rfl <| RunK.passed rfl rfl rfl ?_; refine RunK.passed rfl rfl rfl <| kpt rfl rfl <| kas rfl <| RunK.nil <| And.intro (by kernel_rfl) ?_; refine LWP.region (by kernel_rfl) <| kmv rfl <| kad rfl rfl (wrap_i64 (by omega)) <| kas rfl <| RunK.nil ?_)
        exact ⟨_, ⟨[(2, Lp 2), (5, Vs (some ⟨lb, lo, none⟩) D.length lc), (7, Vs (some ⟨kb, ko, none⟩) Q.length kc), (8, Ln .i64 (cn : Nat)), (9, Ln .i64 (i : Nat)), (10, Lb true), (11, Ln .i64 (j + 1 : Nat))], [sxB 2 a.ver ad a.cs.length ca], Z⟩, by omega, Le.of (by exact ⟨rfl, rfl, rfl, rfl, rfl, rfl, rfl, trivial⟩) (by exact ⟨rfl, trivial⟩) (by exact rfl) (by exact rfl) (by repeat' (first | refine all_cons_true ?_ ?_ | rfl | exact bytes_inUse | exact vals_inUse | exact mid_inUse rfl)), j + 1, by omega, rfl, by rw [hsn]⟩
      | false =>
        rw [hf, Bool.false_or] at hsn
        (refine LWP.seq <| LWP.seq <| LWP.region (by kernel_rfl) <| kmv rfl <| kmv rfl <| K.lenX rfl SliceT.h rfl .plain ?_; refine klt rfl rfl (decide_eq_true (by omega)) <| RunK.nil <| LWP.condT rfl ?_; refine LWP.skip ?_; refine LWP.seq <| LWP.block <| LWP.draws mixed (by kernel_rfl) <| kmv rfl <| kmv rfl <| gmv rfl rfl rfl <| gmv rfl rfl rfl <| K.indexX rfl rfl SliceT.h (by omega) hko (.taken rfl rfl) ?_; refine K.loadX rfl hKX rfl k1 (.taken rfl rfl) ?_; refine gmv rfl rfl rfl <| gmv rfl rfl rfl <| K.indexX rfl rfl SliceT.h (by omega) hio (.taken rfl rfl) ?_; refine K.fieldAddrX rfl rfl (.taken rfl rfl) ?_; refine K.loadX rfl hLX rfl l2 (.taken rfl rfl) ?_; refine K.eql rfl rfl rfl (.taken rfl rfl) ?_; refine kpf rfl rfl <| kas rfl <| RunK.nil <| And.intro (by kernel_rfl) ?_; refine LWP.region (by kernel_rfl) <| kmv rfl <| kad rfl rfl (wrap_i64 (by omega)) <| kas rfl <| RunK.nil ?_)
        exact ⟨_, ⟨[(2, Lp 2), (5, Vs (some ⟨lb, lo, none⟩) D.length lc), (7, Vs (some ⟨kb, ko, none⟩) Q.length kc), (8, Ln .i64 (cn : Nat)), (9, Ln .i64 (i : Nat)), (10, Lb (y == x.comp)), (11, Ln .i64 (j + 1 : Nat))], [sxB 2 a.ver ad a.cs.length ca], Z⟩, by omega, Le.of (by exact ⟨rfl, rfl, rfl, rfl, rfl, rfl, rfl, trivial⟩) (by exact ⟨rfl, trivial⟩) (by exact rfl) (by exact rfl) (by repeat' (first | refine all_cons_true ?_ ?_ | rfl | exact bytes_inUse | exact vals_inUse | exact mid_inUse rfl)), j + 1, by omega, rfl, by rw [hsn]⟩
    have e : j = Q.length := by omega
    subst e
    rw [List.take_length, hxk]
    by_cases h1 : x.kind = 1
    · have hbk : bothK x = false := by unfold bothK; rw [h1]; rfl
      rw [if_neg (by rw [decide_eq_false (by omega)]; decide)] at hcs
      rw [hbk]
      by_cases h0 : 0 < i
      · obtain ⟨y, hy⟩ : ∃ y, D[i - 1]? = some y := ⟨_, List.getElem?_eq_getElem (by omega)⟩
        have hle := hrise (i - 1) y x hy (by rw [show i - 1 + 1 = i by omega]; exact hx)
        obtain ⟨lb2, lo2, larr2, lel2, lfr2, e0, hLX2, _, p2, _⟩ := hLin.at hy
        simp only [Option.some.injEq, Addr.mk.injEq] at e0
        obtain ⟨rfl, rfl, _⟩ := e0
        have hip : lo + Int.toNat ((i : Int) - 1) * 3 = lo + (i - 1) * 3 := by rw [show ((i : Int) - 1).toNat = i - 1 by omega]
        (refine LWP.seq <| LWP.seq <| LWP.region (by kernel_rfl) <| kmv rfl <| kmv rfl <| K.lenX rfl SliceT.h rfl .plain ?_; refine klt rfl rfl (decide_eq_false (by omega)) <| RunK.nil <| LWP.condF rfl ?_; refine LWP.exit <| LWP.seq <| LWP.seq <| LWP.draws mixed (by kernel_rfl) <| kmv rfl <| kmv rfl <| kmv rfl <| K.indexX rfl rfl SliceT.h (by omega) hio .plain <| K.fieldAddrX rfl rfl .plain ?_; refine K.loadX rfl hLX rfl l1 .plain <| kne rfl rfl (r := false) (by rw [h1]; rfl) <| kmv rfl <| RunK.passed rfl rfl rfl <| RunK.passed rfl rfl rfl <| RunK.passed rfl rfl rfl <| RunK.passed rfl rfl rfl <| RunK.passed rfl rfl rfl <| RunK.passed rfl rfl rfl <| kpf rfl rfl <| K.neqB rfl rfl (r := false) rfl .plain <| kmv rfl <| gmv rfl rfl rfl <| K.gtr rfl rfl (decide_eq_true (by omega)) (.taken rfl rfl) ?_; refine gmv rfl rfl rfl <| gmv rfl rfl rfl <| gmv rfl rfl rfl <| K.sub rfl rfl (wrap_i64 (by omega)) (.taken rfl rfl) ?_; refine K.indexX rfl rfl SliceT.h (by omega) hip (.taken rfl rfl) ?_; refine K.fieldAddrX rfl rfl (.taken rfl rfl) ?_; refine K.loadX rfl hLX2 rfl p2 (.taken rfl rfl) ?_; refine gmv rfl rfl rfl <| gmv rfl rfl rfl <| K.indexX rfl rfl SliceT.h (by omega) hio (.taken rfl rfl) ?_; refine K.fieldAddrX rfl rfl (.taken rfl rfl) ?_; refine K.loadX rfl hLX rfl l2 (.taken rfl rfl) ?_; refine K.gtr rfl rfl (decide_eq_false (by omega)) (.taken rfl rfl) ?_; refine K.pickT rfl rfl (.taken rfl rfl) ?_; refine kpf rfl rfl <| RunK.nil <| And.intro (by kernel_rfl) ?_; refine LWP.condF rfl ?_; refine LWP.skip ?_; refine LWP.seq <| LWP.region (by kernel_rfl) <| kmv rfl <| kmv rfl <| K.indexX rfl rfl SliceT.h (by omega) hio .plain <| K.fieldAddrX rfl rfl .plain ?_; refine K.loadX rfl hLX rfl l1 .plain <| keq rfl rfl (r := false) (beq_eq_false_iff_ne.2 (by omega)) <| RunK.nil <| LWP.condF rfl ?_; refine LWP.skip ?_; refine LWP.region (by kernel_rfl) <| kmv rfl <| kad rfl rfl (wrap_i64 (by omega)) <| kas rfl <| RunK.nil ?_)
        exact ⟨_, ⟨[(2, Lp 2), (5, Vs (some ⟨lb, lo, none⟩) D.length lc), (7, Vs kd Q.length kc), (8, Ln .i64 (cn : Nat)), (9, Ln .i64 (i + 1 : Nat))], [sxB 2 a.ver ad a.cs.length ca], Z⟩, by omega, Le.of (by exact ⟨rfl, rfl, rfl, rfl, rfl, trivial⟩) (by exact ⟨rfl, trivial⟩) (by exact rfl) (by exact rfl) (by repeat' (first | refine all_cons_true ?_ ?_ | rfl | exact bytes_inUse | exact vals_inUse | exact mid_inUse rfl)), i + 1, by omega, rfl, by rw [hcs]; rfl⟩
      · (refine LWP.seq <| LWP.seq <| LWP.region (by kernel_rfl) <| kmv rfl <| kmv rfl <| K.lenX rfl SliceT.h rfl .plain ?_; refine klt rfl rfl (decide_eq_false (by omega)) <| RunK.nil <| LWP.condF rfl ?_; refine LWP.exit <| LWP.seq <| LWP.seq <| LWP.draws mixed (by kernel_rfl) <| kmv rfl <| kmv rfl <| kmv rfl <| K.indexX rfl rfl SliceT.h (by omega) hio .plain <| K.fieldAddrX rfl rfl .plain ?_; refine K.loadX rfl hLX rfl l1 .plain <| kne rfl rfl (r := false) (by rw [h1]; rfl) <| kmv rfl <| RunK.passed rfl rfl rfl <| RunK.passed rfl rfl rfl <| RunK.passed rfl rfl rfl <| RunK.passed rfl rfl rfl <| RunK.passed rfl rfl rfl <| RunK.passed rfl rfl rfl <| kpf rfl rfl <| K.neqB rfl rfl (r := false) rfl .plain <| kmv rfl <| gmv rfl rfl rfl <| K.gtr rfl rfl (decide_eq_false (by omega)) (.taken rfl rfl) ?_; refine gmv rfl rfl rfl <| RunK.passed rfl rfl rfl <| RunK.passed rfl rfl rfl <| RunK.passed rfl rfl rfl <| RunK.passed rfl rfl rfl <| RunK.passed rfl rfl rfl <| RunK.passed rfl rfl rfl <| RunK.passed rfl rfl rfl <| RunK.passed rfl rfl rfl <| RunK.passed rfl rfl rfl <| RunK.passed rfl rfl rfl <| RunK.passed rfl rfl rfl <| RunK.passed rfl rfl rfl <| K.pickF rfl rfl (.taken rfl rfl) ?_; refine kpf rfl rfl <| RunK.nil <| And.intro (by kernel_rfl) ?_; refine LWP.condF rfl ?_; refine LWP.skip ?_; refine LWP.seq <| LWP.region (by kernel_rfl) <| kmv rfl <| kmv rfl <| K.indexX rfl rfl SliceT.h (by omega) hio .plain <| K.fieldAddrX rfl rfl .plain ?_; refine K.loadX rfl hLX rfl l1 .plain <| keq rfl rfl (r := false) (beq_eq_false_iff_ne.2 (by omega)) <| RunK.nil <| LWP.condF rfl ?_; refine LWP.skip ?_; refine LWP.region (by kernel_rfl) <| kmv rfl <| kad rfl rfl (wrap_i64 (by omega)) <| kas rfl <| RunK.nil ?_)
        exact ⟨_, ⟨[(2, Lp 2), (5, Vs (some ⟨lb, lo, none⟩) D.length lc), (7, Vs kd Q.length kc), (8, Ln .i64 (cn : Nat)), (9, Ln .i64 (i + 1 : Nat))], [sxB 2 a.ver ad a.cs.length ca], Z⟩, by omega, Le.of (by exact ⟨rfl, rfl, rfl, rfl, rfl, trivial⟩) (by exact ⟨rfl, trivial⟩) (by exact rfl) (by exact rfl) (by repeat' (first | refine all_cons_true ?_ ?_ | rfl | exact bytes_inUse | exact vals_inUse | exact mid_inUse rfl)), i + 1, by omega, rfl, by rw [hcs]; rfl⟩
    by_cases h2 : x.kind = 2
    · have hbk : bothK x = false := by unfold bothK; rw [h2]; rfl
      rw [if_pos (decide_eq_true h2)] at hcs
      rw [hbk]
      by_cases h0 : 0 < i
      · obtain ⟨y, hy⟩ : ∃ y, D[i - 1]? = some y := ⟨_, List.getElem?_eq_getElem (by omega)⟩
        have hle := hrise (i - 1) y x hy (by rw [show i - 1 + 1 = i by omega]; exact hx)
        obtain ⟨lb2, lo2, larr2, lel2, lfr2, e0, hLX2, _, p2, _⟩ := hLin.at hy
        simp only [Option.some.injEq, Addr.mk.injEq] at e0
        obtain ⟨rfl, rfl, _⟩ := e0
        have hip : lo + Int.toNat ((i : Int) - 1) * 3 = lo + (i - 1) * 3 := by rw [show ((i : Int) - 1).toNat = i - 1 by omega]
        ((refine LWP.seq <| LWP.seq <| LWP.region (by kernel_rfl) <| kmv rfl <| kmv rfl <| K.lenX rfl SliceT.h rfl .plain ?_; refine klt rfl rfl (decide_eq_false (by omega)) <| RunK.nil <| LWP.condF rfl ?_; refine LWP.exit <| LWP.seq <| LWP.seq <| LWP.draws mixed (by kernel_rfl) <| kmv rfl <| kmv rfl <| kmv rfl <| K.indexX rfl rfl SliceT.h (by omega) hio .plain <| K.fieldAddrX rfl rfl .plain ?_; refine K.loadX rfl hLX rfl l1 .plain <| kne rfl rfl (r := true) (by rw [h2]; rfl) <| kmv rfl <| gmv rfl rfl rfl <| gmv rfl rfl rfl <| K.indexX rfl rfl SliceT.h (by omega) hio (.taken rfl rfl) ?_; refine K.fieldAddrX rfl rfl (.taken rfl rfl) ?_; refine K.loadX rfl hLX rfl l1 (.taken rfl rfl) ?_; refine K.neq rfl rfl (r := false) (by rw [h2]; rfl) (.taken rfl rfl) ?_; refine kpt rfl rfl <| K.neqB rfl rfl (r := false) rfl .plain <| kmv rfl <| gmv rfl rfl rfl <| K.gtr rfl rfl (decide_eq_true (by omega)) (.taken rfl rfl) ?_; refine gmv rfl rfl rfl <| gmv rfl rfl rfl <| gmv rfl rfl rfl <| K.sub rfl rfl (wrap_i64 (by omega)) (.taken rfl rfl) ?_; refine K.indexX rfl rfl SliceT.h (by omega) hip (.taken rfl rfl) ?_; refine K.fieldAddrX rfl rfl (.taken rfl rfl) ?_; refine K.loadX rfl hLX2 rfl p2 (.taken rfl rfl) ?_); (refine gmv rfl rfl rfl <| gmv rfl rfl rfl <| K.indexX rfl rfl SliceT.h (by omega) hio (.taken rfl rfl) ?_; refine K.fieldAddrX rfl rfl (.taken rfl rfl) ?_; refine K.loadX rfl hLX rfl l2 (.taken rfl rfl) ?_; refine K.gtr rfl rfl (decide_eq_false (by omega)) (.taken rfl rfl) ?_; refine K.pickT rfl rfl (.taken rfl rfl) ?_; refine kpf rfl rfl <| RunK.nil <| And.intro (by kernel_rfl) ?_; refine LWP.condF rfl ?_; refine LWP.skip ?_; refine LWP.seq <| LWP.region (by kernel_rfl) <| kmv rfl <| kmv rfl <| K.indexX rfl rfl SliceT.h (by omega) hio .plain <| K.fieldAddrX rfl rfl .plain ?_; refine K.loadX rfl hLX rfl l1 .plain <| keq rfl rfl (r := true) (beq_iff_eq.2 h2) <| RunK.nil <| LWP.condT rfl ?_; refine LWP.region (by kernel_rfl) <| kmv rfl <| kad rfl rfl (wrap_i64 (by omega)) <| kas rfl <| RunK.nil <| LWP.region (by kernel_rfl) <| kmv rfl <| kad rfl rfl (wrap_i64 (by omega)) <| kas rfl <| RunK.nil ?_))
        exact ⟨_, ⟨[(2, Lp 2), (5, Vs (some ⟨lb, lo, none⟩) D.length lc), (7, Vs kd Q.length kc), (8, Ln .i64 (cn + 1 : Nat)), (9, Ln .i64 (i + 1 : Nat))], [sxB 2 a.ver ad a.cs.length ca], Z⟩, by omega, Le.of (by exact ⟨rfl, rfl, rfl, rfl, rfl, trivial⟩) (by exact ⟨rfl, trivial⟩) (by exact rfl) (by exact rfl) (by repeat' (first | refine all_cons_true ?_ ?_ | rfl | exact bytes_inUse | exact vals_inUse | exact mid_inUse rfl)), i + 1, by omega, rfl, by rw [hcs]⟩
      · (refine LWP.seq <| LWP.seq <| LWP.region (by kernel_rfl) <| kmv rfl <| kmv rfl <| K.lenX rfl SliceT.h rfl .plain ?_; refine klt rfl rfl (decide_eq_false (by omega)) <| RunK.nil <| LWP.condF rfl ?_; refine LWP.exit <| LWP.seq <| LWP.seq <| LWP.draws mixed (by kernel_rfl) <| kmv rfl <| kmv rfl <| kmv rfl <| K.indexX rfl rfl SliceT.h (by omega) hio .plain <| K.fieldAddrX rfl rfl .plain ?_; refine K.loadX rfl hLX rfl l1 .plain <| kne rfl rfl (r := true) (by rw [h2]; rfl) <| kmv rfl <| gmv rfl rfl rfl <| gmv rfl rfl rfl <| K.indexX rfl rfl SliceT.h (by omega) hio (.taken rfl rfl) ?_; refine K.fieldAddrX rfl rfl (.taken rfl rfl) ?_; refine K.loadX rfl hLX rfl l1 (.taken rfl rfl) ?_; refine K.neq rfl rfl (r := false) (by rw [h2]; rfl) (.taken rfl rfl) ?_; refine kpt rfl rfl <| K.neqB rfl rfl (r := false) rfl .plain <| kmv rfl <| gmv rfl rfl rfl <| K.gtr rfl rfl (decide_eq_false (by omega)) (.taken rfl rfl) ?_; refine gmv rfl rfl rfl <| RunK.passed rfl rfl rfl <| RunK.passed rfl rfl rfl <| RunK.passed rfl rfl rfl <| RunK.passed rfl rfl rfl <| RunK.passed rfl rfl rfl <| RunK.passed rfl rfl rfl <| RunK.passed rfl rfl rfl <| RunK.passed rfl rfl rfl <| RunK.passed rfl rfl rfl <| RunK.passed rfl rfl rfl <| RunK.passed rfl rfl rfl <| RunK.passed rfl rfl rfl <| K.pickF rfl rfl (.taken rfl rfl) ?_; refine kpf rfl rfl <| RunK.nil <| And.intro (by kernel_rfl) ?_; refine LWP.condF rfl ?_; refine LWP.skip ?_; refine LWP.seq <| LWP.region (by kernel_rfl) <| kmv rfl <| kmv rfl <| K.indexX rfl rfl SliceT.h (by omega) hio .plain <| K.fieldAddrX rfl rfl .plain ?_; refine K.loadX rfl hLX rfl l1 .plain <| keq rfl rfl (r := true) (beq_iff_eq.2 h2) <| RunK.nil <| LWP.condT rfl ?_; refine LWP.region (by kernel_rfl) <| kmv rfl <| kad rfl rfl (wrap_i64 (by omega)) <| kas rfl <| RunK.nil <| LWP.region (by kernel_rfl) <| kmv rfl <| kad rfl rfl (wrap_i64 (by omega)) <| kas rfl <| RunK.nil ?_)
        exact ⟨_, ⟨[(2, Lp 2), (5, Vs (some ⟨lb, lo, none⟩) D.length lc), (7, Vs kd Q.length kc), (8, Ln .i64 (cn + 1 : Nat)), (9, Ln .i64 (i + 1 : Nat))], [sxB 2 a.ver ad a.cs.length ca], Z⟩, by omega, Le.of (by exact ⟨rfl, rfl, rfl, rfl, rfl, trivial⟩) (by exact ⟨rfl, trivial⟩) (by exact rfl) (by exact rfl) (by repeat' (first | refine all_cons_true ?_ ?_ | rfl | exact bytes_inUse | exact vals_inUse | exact mid_inUse rfl)), i + 1, by omega, rfl, by rw [hcs]⟩
    have hbk : bothK x = true := by unfold bothK; simp [h1, h2]
    rw [if_neg (by rw [decide_eq_false h2]; decide)] at hcs
    rw [hbk]
    by_cases h0 : 0 < i
    · obtain ⟨y, hy⟩ : ∃ y, D[i - 1]? = some y := ⟨_, List.getElem?_eq_getElem (by omega)⟩
      have hle := hrise (i - 1) y x hy (by rw [show i - 1 + 1 = i by omega]; exact hx)
      obtain ⟨lb2, lo2, larr2, lel2, lfr2, e0, hLX2, _, p2, _⟩ := hLin.at hy
      simp only [Option.some.injEq, Addr.mk.injEq] at e0
      obtain ⟨rfl, rfl, _⟩ := e0
      have hip : lo + Int.toNat ((i : Int) - 1) * 3 = lo + (i - 1) * 3 := by rw [show ((i : Int) - 1).toNat = i - 1 by omega]
      ((refine LWP.seq <| LWP.seq <| LWP.region (by kernel_rfl) <| kmv rfl <| kmv rfl <| K.lenX rfl SliceT.h rfl .plain ?_; refine klt rfl rfl (decide_eq_false (by omega)) <| RunK.nil <| LWP.condF rfl ?_; refine LWP.exit <| LWP.seq <| LWP.seq <| LWP.draws mixed (by kernel_rfl) <| kmv rfl <| kmv rfl <| kmv rfl <| K.indexX rfl rfl SliceT.h (by omega) hio .plain <| K.fieldAddrX rfl rfl .plain ?_; refine K.loadX rfl hLX rfl l1 .plain <| kne rfl rfl (r := true) (bne_iff_ne.2 h1) <| kmv rfl <| gmv rfl rfl rfl <| gmv rfl rfl rfl <| K.indexX rfl rfl SliceT.h (by omega) hio (.taken rfl rfl) ?_; refine K.fieldAddrX rfl rfl (.taken rfl rfl) ?_; refine K.loadX rfl hLX rfl l1 (.taken rfl rfl) ?_; refine K.neq rfl rfl (r := true) (bne_iff_ne.2 h2) (.taken rfl rfl) ?_; refine kpt rfl rfl <| K.neqB rfl rfl (r := false) rfl .plain <| kmv rfl <| gmv rfl rfl rfl <| K.gtr rfl rfl (decide_eq_true (by omega)) (.taken rfl rfl) ?_; refine gmv rfl rfl rfl <| gmv rfl rfl rfl <| gmv rfl rfl rfl <| K.sub rfl rfl (wrap_i64 (by omega)) (.taken rfl rfl) ?_; refine K.indexX rfl rfl SliceT.h (by omega) hip (.taken rfl rfl) ?_; refine K.fieldAddrX rfl rfl (.taken rfl rfl) ?_; refine K.loadX rfl hLX2 rfl p2 (.taken rfl rfl) ?_); (refine gmv rfl rfl rfl <| gmv rfl rfl rfl <| K.indexX rfl rfl SliceT.h (by omega) hio (.taken rfl rfl) ?_; refine K.fieldAddrX rfl rfl (.taken rfl rfl) ?_; refine K.loadX rfl hLX rfl l2 (.taken rfl rfl) ?_; refine K.gtr rfl rfl (decide_eq_false (by omega)) (.taken rfl rfl) ?_; refine K.pickT rfl rfl (.taken rfl rfl) ?_; refine kpf rfl rfl <| RunK.nil <| And.intro (by kernel_rfl) ?_; refine LWP.condF rfl ?_; refine LWP.skip ?_; refine LWP.seq <| LWP.region (by kernel_rfl) <| kmv rfl <| kmv rfl <| K.indexX rfl rfl SliceT.h (by omega) hio .plain <| K.fieldAddrX rfl rfl .plain ?_; refine K.loadX rfl hLX rfl l1 .plain <| keq rfl rfl (r := false) (beq_eq_false_iff_ne.2 (by omega)) <| RunK.nil <| LWP.condF rfl ?_; refine LWP.skip ?_; refine LWP.region (by kernel_rfl) <| kmv rfl <| kad rfl rfl (wrap_i64 (by omega)) <| kas rfl <| RunK.nil ?_))
      exact ⟨_, ⟨[(2, Lp 2), (5, Vs (some ⟨lb, lo, none⟩) D.length lc), (7, Vs kd Q.length kc), (8, Ln .i64 (cn : Nat)), (9, Ln .i64 (i + 1 : Nat))], [sxB 2 a.ver ad a.cs.length ca], Z⟩, by omega, Le.of (by exact ⟨rfl, rfl, rfl, rfl, rfl, trivial⟩) (by exact ⟨rfl, trivial⟩) (by exact rfl) (by exact rfl) (by repeat' (first | refine all_cons_true ?_ ?_ | rfl | exact bytes_inUse | exact vals_inUse | exact mid_inUse rfl)), i + 1, by omega, rfl, by rw [hcs]; rfl⟩
    · (refine LWP.seq <| LWP.seq <| LWP.region (by kernel_rfl) <| kmv rfl <| kmv rfl <| K.lenX rfl SliceT.h rfl .plain ?_; refine klt rfl rfl (decide_eq_false (by omega)) <| RunK.nil <| LWP.condF rfl ?_; refine LWP.exit <| LWP.seq <| LWP.seq <| LWP.draws mixed (by kernel_rfl) <| kmv rfl <| kmv rfl <| kmv rfl <| K.indexX rfl rfl SliceT.h (by omega) hio .plain <| K.fieldAddrX rfl rfl .plain ?_; refine K.loadX rfl hLX rfl l1 .plain <| kne rfl rfl (r := true) (bne_iff_ne.2 h1) <| kmv rfl <| gmv rfl rfl rfl <| gmv rfl rfl rfl <| K.indexX rfl rfl SliceT.h (by omega) hio (.taken rfl rfl) ?_; refine K.fieldAddrX rfl rfl (.taken rfl rfl) ?_; refine K.loadX rfl hLX rfl l1 (.taken rfl rfl) ?_; refine K.neq rfl rfl (r := true) (bne_iff_ne.2 h2) (.taken rfl rfl) ?_; refine kpt rfl rfl <| K.neqB rfl rfl (r := false) rfl .plain <| kmv rfl <| gmv rfl rfl rfl <| K.gtr rfl rfl (decide_eq_false (by omega)) (.taken rfl rfl) ?_; refine gmv rfl rfl rfl <| RunK.passed rfl rfl rfl <| RunK.passed rfl rfl rfl <| RunK.passed rfl rfl rfl <| RunK.passed rfl rfl rfl <| RunK.passed rfl rfl rfl <| RunK.passed rfl rfl rfl <| RunK.passed rfl rfl rfl <| RunK.passed rfl rfl rfl <| RunK.passed rfl rfl rfl <| RunK.passed rfl rfl rfl <| RunK.passed rfl rfl rfl <| RunK.passed rfl rfl rfl <| K.pickF rfl rfl (.taken rfl rfl) ?_; refine kpf rfl rfl <| RunK.nil <| And.intro (by kernel_rfl) ?_; refine LWP.condF rfl ?_; refine LWP.skip ?_; refine LWP.seq <| LWP.region (by kernel_rfl) <| kmv rfl <| kmv rfl <| K.indexX rfl rfl SliceT.h (by omega) hio .plain <| K.fieldAddrX rfl rfl .plain ?_; refine K.loadX rfl hLX rfl l1 .plain <| keq rfl rfl (r := false) (beq_eq_false_iff_ne.2 (by omega)) <| RunK.nil <| LWP.condF rfl ?_; refine LWP.skip ?_; refine LWP.region (by kernel_rfl) <| kmv rfl <| kad rfl rfl (wrap_i64 (by omega)) <| kas rfl <| RunK.nil ?_)
      exact ⟨_, ⟨[(2, Lp 2), (5, Vs (some ⟨lb, lo, none⟩) D.length lc), (7, Vs kd Q.length kc), (8, Ln .i64 (cn : Nat)), (9, Ln .i64 (i + 1 : Nat))], [sxB 2 a.ver ad a.cs.length ca], Z⟩, by omega, Le.of (by exact ⟨rfl, rfl, rfl, rfl, rfl, trivial⟩) (by exact ⟨rfl, trivial⟩) (by exact rfl) (by exact rfl) (by repeat' (first | refine all_cons_true ?_ ?_ | rfl | exact bytes_inUse | exact vals_inUse | exact mid_inUse rfl)), i + 1, by omega, rfl, by rw [hcs]; rfl⟩
  have e : i = D.length := by omega
  subst e
  rw [List.take_length] at hcl ⊢
  generalize D.countP (fun x => decide (x.kind = 2)) = cn at *
  (refine LWP.seq <| LWP.seq <| LWP.region (by kernel_rfl) <| kmv rfl <| kmv rfl <| K.lenX rfl SliceT.h rfl .plain ?_; refine klt rfl rfl (decide_eq_false (by omega)) <| RunK.nil <| LWP.condF rfl ?_; refine LWP.exit <| LWP.seq <| LWP.region (by kernel_rfl) <| kmv rfl <| K.lenX rfl SliceT.h rfl .plain ?_; refine kfa rfl rfl ?_; refine kl1 rfl rfl rfl <| K.lenX rfl SliceT.h rfl .plain ?_; refine kmv rfl <| K.sub rfl rfl (wrap_i64 (by omega)) .plain <| keq rfl rfl (r := true) (beq_iff_eq.2 (by omega)) <| kas rfl <| RunK.nil <| LWP.ret ?_)
  exact ⟨[_], ⟨rfl, trivial⟩, rfl⟩
end Go.Proofs.YtfcaebhofjjjnaaDoor
end
