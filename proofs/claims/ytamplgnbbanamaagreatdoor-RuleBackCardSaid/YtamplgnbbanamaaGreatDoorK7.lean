/- A piece of a proof over this program: contracts of its functions, and a logic to prove them by. -/
import Derived.Test.YtamplgnbbanamaaGreatDoorK3
import Derived.Test.YtamplgnbbanamaaGreatDoorK4
import Derived.Test.YtamplgnbbanamaaGreatDoorK5
import Derived.Test.YtamplgnbbanamaaGreatDoorK6
import Derived.Lib.Join
section
namespace Go.Proofs.YtamplgnbbanamaaGreatDoor
open Go Go.Lg Go.Lg.Fml Go.Lg.Fld Go.Lg.Arith
set_option maxRecDepth 100000
theorem kE_len {c : List Ins} (h : encErr c = 0) : (encE c).length ≤ 1200 := by
  have h64 : c.length ≤ 64 := by
    by_cases hz : chkX c = 0
    · exact (chkX_zero hz).1
    · exact absurd ((if_neg hz : encErr c = chkX c) ▸ h) hz
  have := encIs_len c
  unfold encE encX
  rw [List.length_append, leB_length, List.length_cons]
  omega
theorem kEs_len : ∀ {l : List (List Ins)}, (∀ c ∈ l, encErr c = 0) → (encEs l).length ≤ l.length * 1200
  | [], _ => by simp [encEs]
  | c :: t, h => by
    have h1 := kE_len (h c (by simp))
    have h2 := kEs_len (l := t) (fun d hd => h d (by simp [hd]))
    simp only [encEs, List.length_append, List.length_cons]
    omega
theorem kR_len {r : Rl} (h : ∀ c ∈ r.ex, encErr c = 0) (h8 : r.ex.length ≤ 8) : (encR r).length ≤ 10000 := by
  have := kEs_len h
  unfold encR
  simp only [List.length_cons]
  omega
theorem kRs_len : ∀ {l : List Rl}, (∀ r ∈ l, (∀ c ∈ r.ex, encErr c = 0) ∧ r.ex.length ≤ 8) → (encRs l).length ≤ l.length * 10000
  | [], _ => by simp [encRs]
  | c :: t, h => by
    have h1 := kR_len (h c (by simp)).1 (h c (by simp)).2
    have h2 := kRs_len (l := t) (fun d hd => h d (by simp [hd]))
    simp only [encRs, List.length_append, List.length_cons]
    omega
theorem kT_ok {c : List Ins} (h : encErr c = 0) : encTX c = encX c := if_pos h
variable (X : Nat → Option Obj)
theorem kPut_0 (n : Nat) (h : n < 256) : MSpec Tryz.prog X 25 [Lp 1000000, Ln .i64 (n : Nat)] (w0 1000000) (.tup []) (w1 1000000 1000001 1000002 [o8 (n : Nat)]) := by
  have hN := WNum_0_1 X n (by omega) (by omega)
  rw [leB1o n] at hN
  refine MSpec.intro Tryz.func25 rfl (by kernel_rfl) rfl rfl (by repeat' (first | refine all_cons_true ?_ ?_ | rfl | exact bytes_inUse | exact vals_inUse | exact mid_inUse rfl)) rfl rfl ?_
  intro C
  have hw : IntKind.u64.wrap ((n : Nat) : Int) = ((n : Nat) : Int) := wrap_u64 (by omega)
  (refine rgN <| kmv rfl <| kmv rfl <| kcv rfl hw ?_; refine K.callM [(1000001, 501), (1000002, 502)] (w1 1000000 501 502 [o8 (n : Nat)]) (hN) rfl rfl (by exact (And.intro ⟨_, rfl, rfl⟩ trivial)) (by exact (all_cons_true (all_cons_true rfl (all_cons_true rfl rfl)) rfl)) rfl rfl rfl rfl (by exact (.box rfl rfl (.box rfl rfl (.box rfl rfl .nil)))) .plain <| RunK.nil ?_)
  exact ⟨[(1000001, 501), (1000002, 502)], ⟨[], trivial, rfl⟩, (by repeat' (first | exact trivial | refine And.intro ⟨_, rfl, ?_⟩ ?_ | refine And.intro ⟨_, rfl⟩ ?_ | rfl | exact Box.ren_bytes _ _ _ _ | exact Box.ren_vals _ _ _ _ | exact Box.ren_mid rfl)), rfl, rfl⟩
theorem kPut_1 (l : List UInt8) (n : Int) (h : 0 ≤ n ∧ n < 256) (hl : l.length < 900000000) : MSpec Tryz.prog X 25 [Lp 1000000, Ln .i64 n] (w1 1000000 1000001 1000002 l) (.tup []) (w1 1000000 1000001 1000003 (l ++ [o8 n]) ++ [(1000002, none)]) := by
  obtain ⟨k, rfl⟩ := Int.eq_ofNat_of_zero_le h.1
  have hk : k < 256 := by omega
  have hN := WNum_1_1 X l k (by omega) (by omega) hl
  rw [leB1o k] at hN
  refine MSpec.intro Tryz.func25 rfl (by kernel_rfl) rfl rfl (by repeat' (first | refine all_cons_true ?_ ?_ | rfl | exact bytes_inUse | exact vals_inUse | exact mid_inUse rfl)) rfl rfl ?_
  intro C
  have hw : IntKind.u64.wrap ((k : Nat) : Int) = ((k : Nat) : Int) := wrap_u64 (by omega)
  (refine rgN <| kmv rfl <| kmv rfl <| kcv rfl hw ?_; refine K.callM [(1000003, 501)] (w1 1000000 1000001 501 (l ++ [o8 (k : Nat)]) ++ [(1000002, none)]) (hN) rfl rfl (by exact (And.intro ⟨_, rfl, rfl⟩ (And.intro ⟨_, rfl, rfl⟩ (And.intro ⟨_, rfl, (Box.ren_bytes _ _ _ _)⟩ trivial)))) (by exact (all_cons_true (all_cons_true rfl (all_cons_true rfl rfl)) (all_cons_true (all_cons_true rfl rfl) (all_cons_true bytes_inUse rfl)))) rfl rfl rfl rfl (by exact (.box rfl rfl (.box rfl rfl (.box rfl (Box.ren_bytes _ _ _ _) (.dead rfl .nil))))) .plain <| RunK.nil ?_)
  exact ⟨[(1000003, 501)], ⟨[], trivial, rfl⟩, (by repeat' (first | exact trivial | refine And.intro ⟨_, rfl, ?_⟩ ?_ | refine And.intro ⟨_, rfl⟩ ?_ | rfl | exact Box.ren_bytes _ _ _ _ | exact Box.ren_vals _ _ _ _ | exact Box.ren_mid rfl)), rfl, rfl⟩
theorem kPart_1 (l : List UInt8) (c : List Ins) (h : encErr c = 0) (hl : l.length < 800000000) : MSpec Tryz.prog X 55 [Lp 1000000, Ls (encX c)] (w1 1000000 1000001 1000002 l) (Lb true) (w1 1000000 1000001 1000003 (l ++ encE c) ++ [(1000002, none)]) := by
  have hc := kE_len h
  unfold encE at hc ⊢
  rw [List.length_append, leB_length] at hc
  have hp : (256 : Nat) ^ 4 = 4294967296 := by decide
  have := WPart_1 X l (encX c) (by unfold fitW; rw [decide_eq_true (by show (encX c).length < 256 ^ 4; omega)]; rfl) (by omega) hl
  rw [List.append_assoc] at this
  exact this
abbrev prSt (l : List UInt8) (ead : Option Addr) (n ecap i : Nat) (Y : Nat → Option Obj) : St :=
  ⟨[(0, Lp 1000000), (22, Lx ead n ecap), (23, Ln .i64 (n : Nat)), (24, Ln .i64 (i : Nat))], w1 1000000 1000001 500 l ++ [(1000002, none)], Y⟩
set_option maxHeartbeats 3200000 in
theorem kPutRule (l : List UInt8) (r : Rl) (ead : Option Addr) (ecap : Nat) (hE : CodesIn X ead r.ex) (a1 : 0 ≤ r.nw ∧ r.nw < 256) (a2 : 0 ≤ r.old ∧ r.old < 256) (a3 : r.ex.length ≤ 8) (a4 : ∀ c ∈ r.ex, encErr c = 0) (hl : l.length < 700000000) :
    MSpec Tryz.prog X 27 [Lp 1000000, LPg r.nw r.old ead r.ex.length ecap] (w1 1000000 1000001 1000002 l) (.tup []) (w1 1000000 1000001 1000003 (l ++ encR r) ++ [(1000002, none)]) := by
  obtain ⟨nw, old, ex⟩ := r
  simp only at hE a1 a2 a3 a4 ⊢
  have p1 := kPut_1 X l nw a1 (by omega)
  have p2 := kPut_1 X (l ++ [o8 nw]) old a2 (by rw [List.length_append, List.length_singleton]; omega)
  have p3 := kPut_1 X ((l ++ [o8 nw]) ++ [o8 old]) (ex.length : Nat) ⟨by omega, by omega⟩ (by rw [List.length_append, List.length_append, List.length_singleton, List.length_singleton]; omega)
  have hfin : l ++ encR ⟨nw, old, ex⟩ = (((l ++ [o8 nw]) ++ [o8 old]) ++ [o8 (ex.length : Nat)]) ++ encEs ex := by unfold encR; simp
  have hPl : (((l ++ [o8 nw]) ++ [o8 old]) ++ [o8 (ex.length : Nat)]).length = l.length + 3 := by simp only [List.length_append, List.length_singleton]
  refine MSpec.intro Tryz.func27 rfl (by kernel_rfl) rfl rfl (by repeat' (first | refine all_cons_true ?_ ?_ | rfl | exact bytes_inUse | exact vals_inUse | exact mid_inUse rfl)) rfl rfl ?_
  intro C
  (refine LWP.seq <| rgN <| K.box rfl rfl rfl .plain <| RunK.nil <| LWP.seq <| rgN <| kmv rfl <| kfa rfl rfl ?_; refine kl1 rfl rfl rfl <| K.callM [(1000003, 501)] (w1 1000000 1000001 501 (l ++ [o8 nw]) ++ [(1000002, none)]) (p1) rfl rfl (by exact (And.intro ⟨_, rfl, rfl⟩ (And.intro ⟨_, rfl, rfl⟩ (And.intro ⟨_, rfl, (Box.ren_bytes _ _ _ _)⟩ trivial)))) (by exact (all_cons_true (all_cons_true rfl (all_cons_true rfl rfl)) (all_cons_true (all_cons_true rfl rfl) (all_cons_true bytes_inUse rfl)))) rfl rfl rfl rfl (by exact (.box rfl rfl (.box rfl rfl (.box rfl (Box.ren_bytes _ _ _ _) (.dead rfl .nil))))) .plain <| RunK.nil <| LWP.seq <| rgN <| kmv rfl <| kfa rfl rfl ?_; refine kl1 rfl rfl rfl <| K.callM [(1000002, 501), (1000003, 502)] (w1 1000000 1000001 502 ((l ++ [o8 nw]) ++ [o8 old]) ++ [(501, none)]) (p2) rfl rfl (by exact (And.intro ⟨_, rfl, rfl⟩ (And.intro ⟨_, rfl, rfl⟩ (And.intro ⟨_, rfl, (Box.ren_bytes _ _ _ _)⟩ trivial)))) (by exact (all_cons_true (all_cons_true rfl (all_cons_true rfl rfl)) (all_cons_true (all_cons_true rfl rfl) (all_cons_true bytes_inUse rfl)))) rfl rfl rfl rfl (by exact (.box rfl rfl (.box rfl rfl (.box rfl (Box.ren_bytes _ _ _ _) (.dead rfl .nil))))) .plain <| RunK.nil <| LWP.seq <| rgN <| kmv rfl <| kfa rfl rfl ?_; refine kl1 rfl rfl rfl <| K.lenX rfl SliceT.h rfl .plain ?_; refine K.callM [(1000002, 502), (1000003, 503)] (w1 1000000 1000001 503 (((l ++ [o8 nw]) ++ [o8 old]) ++ [o8 (ex.length : Nat)]) ++ [(502, none)]) (p3) rfl rfl (by exact (And.intro ⟨_, rfl, rfl⟩ (And.intro ⟨_, rfl, rfl⟩ (And.intro ⟨_, rfl, (Box.ren_bytes _ _ _ _)⟩ trivial)))) (by exact (all_cons_true (all_cons_true rfl (all_cons_true rfl rfl)) (all_cons_true (all_cons_true rfl rfl) (all_cons_true bytes_inUse rfl)))) rfl rfl rfl rfl (by exact (.box rfl rfl (.box rfl rfl (.box rfl (Box.ren_bytes _ _ _ _) (.dead rfl .nil))))) .plain <| RunK.nil <| LWP.seq <| rgN <| kfa rfl rfl ?_; refine kl1 rfl rfl rfl <| K.lenX rfl SliceT.h rfl .plain ?_; refine kmv rfl <| RunK.nil <| LWP.block ?_)
  rw [hfin]
  generalize hP : (((l ++ [o8 nw]) ++ [o8 old]) ++ [o8 (ex.length : Nat)]) = P at *
  refine LWP.loop (fun m σ => ∃ i : Nat, i ≤ ex.length ∧ m = ex.length - i ∧ σ = prSt (P ++ encEs (ex.take i)) ead ex.length ecap i X) ex.length
    ⟨prSt (P ++ encEs (ex.take 0)) ead ex.length ecap 0 X, by
      rw [show P ++ encEs (ex.take 0) = P from List.append_nil _]
      exact Le.ofR [(500, 503)] (by exact ⟨rfl, rfl, rfl, rfl, trivial⟩) (by repeat' (first | exact trivial | refine And.intro ⟨_, rfl, ?_⟩ ?_ | refine And.intro ⟨_, rfl⟩ ?_ | rfl | exact Box.ren_bytes _ _ _ _ | exact Box.ren_vals _ _ _ _ | exact Box.ren_mid rfl)) (by exact rfl) (by exact rfl) (by repeat' (first | refine all_cons_true ?_ ?_ | rfl | exact bytes_inUse | exact vals_inUse | exact mid_inUse rfl)) (by exact rfl) (by exact rfl), 0, Nat.zero_le _, rfl, rfl⟩ ?_
  rintro m σ ⟨i, hi, rfl, rfl⟩
  by_cases hlt : i < ex.length
  · obtain ⟨c, hc⟩ : ∃ c, ex[i]? = some c := ⟨_, List.getElem?_eq_getElem hlt⟩
    obtain ⟨eb, eo, earr, eel, efr, vad, vcap, rfl, hEX, hec, hI⟩ := hE.get hc
    have hio : eo + Int.toNat (i : Int) * 1 = eo + i * 1 := by simp
    have hce := a4 c (List.mem_of_getElem? hc)
    have h64 : c.length ≤ 64 := by
      by_cases hz : chkX c = 0
      · exact (chkX_zero hz).1
      · exact absurd ((if_neg hz : encErr c = chkX c) ▸ hce) hz
    have hG := gEncode' X c vad vcap hI (by omega)
    rw [hce, kT_ok hce] at hG
    have hBl : (P ++ encEs (ex.take i)).length ≤ l.length + 3 + 8 * 1200 := by
      have := kEs_len (l := ex.take i) (fun d hd => a4 d (List.mem_of_mem_take hd))
      rw [List.length_take] at this
      rw [List.length_append]; omega
    have hnext : P ++ encEs (ex.take (i + 1)) = (P ++ encEs (ex.take i)) ++ encE c := by
      rw [take_snoc hc, encEs_app, List.append_assoc]
      simp [encEs]
    have hadd : IntKind.i64.wrap (((i : Nat) : Int) + 1) = ((i + 1 : Nat) : Int) := by rw [wrap_i64 (by omega)]; omega
    have q := kPart_1 X (P ++ encEs (ex.take i)) c hce (by omega)
    rw [← hnext] at q
    (refine LWP.seq <| rgN <| klt rfl rfl (decide_eq_true (by omega)) <| RunK.nil <| LWP.seq <| LWP.condT rfl ?_; refine LWP.skip ?_; refine LWP.seq <| LWP.block <| LWP.seq <| rgN <| K.indexX rfl rfl SliceT.h (by omega) hio .plain <| K.loadX rfl hEX rfl hec .plain <| kas rfl <| RunK.nil <| LWP.seq <| rgN <| kmv rfl <| kca rfl rfl hG <| kmv rfl <| kex rfl rfl ?_; refine kex rfl rfl <| kas rfl <| kas rfl <| RunK.nil <| rgN <| kmv rfl <| kmv rfl <| K.callM [(1000002, 500), (1000003, 501)] (w1 1000000 1000001 501 (P ++ encEs (ex.take (i + 1))) ++ [(500, none)]) (q) rfl rfl (by exact (And.intro ⟨_, rfl, rfl⟩ (And.intro ⟨_, rfl, rfl⟩ (And.intro ⟨_, rfl, (Box.ren_bytes _ _ _ _)⟩ trivial)))) (by exact (all_cons_true (all_cons_true rfl (all_cons_true rfl rfl)) (all_cons_true (all_cons_true rfl rfl) (all_cons_true bytes_inUse rfl)))) rfl rfl rfl rfl (by exact (.box rfl rfl (.box rfl rfl (.box rfl (Box.ren_bytes _ _ _ _) (.dead rfl .nil))))) .plain <| RunK.nil <| rgN <| kad rfl rfl hadd <| kmv rfl <| RunK.nil ?_)
    exact ⟨_, prSt (P ++ encEs (ex.take (i + 1))) (some ⟨eb, eo, none⟩) ex.length ecap (i + 1) X, by omega, Le.ofR [(500, 501)] (by exact ⟨rfl, rfl, rfl, rfl, trivial⟩) (by repeat' (first | exact trivial | refine And.intro ⟨_, rfl, ?_⟩ ?_ | refine And.intro ⟨_, rfl⟩ ?_ | rfl | exact Box.ren_bytes _ _ _ _ | exact Box.ren_vals _ _ _ _ | exact Box.ren_mid rfl)) (by exact rfl) (by exact rfl) (by repeat' (first | refine all_cons_true ?_ ?_ | rfl | exact bytes_inUse | exact vals_inUse | exact mid_inUse rfl)) (by exact rfl) (by exact rfl), i + 1, by omega, rfl, rfl⟩
  · have e : i = ex.length := by omega
    subst e
    rw [List.take_length]
    (refine LWP.seq <| rgN <| klt rfl rfl (decide_eq_false (by omega)) <| RunK.nil <| LWP.seq <| LWP.condF rfl ?_; refine LWP.exit ?_)
    exact ⟨[(1000003, 500)], ⟨[], trivial, rfl⟩, (by repeat' (first | exact trivial | refine And.intro ⟨_, rfl, ?_⟩ ?_ | refine And.intro ⟨_, rfl⟩ ?_ | rfl | exact Box.ren_bytes _ _ _ _ | exact Box.ren_vals _ _ _ _ | exact Box.ren_mid rfl)), rfl, rfl⟩
def encPT (p : Pg) : List UInt8 := if chkP p = 0 then encP p else []
theorem kok_rules {p : Pg} (h : chkP p = 0) : ∀ r ∈ p.rs, (0 ≤ r.nw ∧ r.nw < 256) ∧ (0 ≤ r.old ∧ r.old < 256) ∧ r.ex.length ≤ 8 ∧ ∀ c ∈ r.ex, encErr c = 0 := fun r hr => by
  obtain ⟨last, hl⟩ := chkRs_mem (chkP_zero h).2.2.1 r hr
  obtain ⟨q1, q2, _, _, q5, q6⟩ := chkR_zero hl
  exact ⟨by omega, by omega, q5, firstX_zero q6⟩
abbrev eeSt (l : List UInt8) (va vb : Int) (ad : Option Addr) (n cap i : Nat) (Y : Nat → Option Obj) : St :=
  ⟨[(1, Lp 1), (5, Lp 14), (33, Lx ad n cap), (34, Ln .i64 (n : Nat)), (35, Ln .i64 (i : Nat))], w1 14 601 500 l ++ [v3B 24 1 va vb ad n cap], Y⟩
set_option maxHeartbeats 3200000 in
theorem kEncode (p : Pg) (ad : Option Addr) (cap : Nat) (hin : RulesIn X ad p.rs) (hbig : p.rs.length < 4611686018427387904) (hsz : sizeR p.rs) : PSpec Tryz.prog X 11 [LPg p.va p.vb ad p.rs.length cap] (.tup [Ss (encPT p), Sn .i64 (chkP p)]) := by
  have hc := kCheck X p ad cap hin hbig hsz
  unfold encPT
  by_cases hz : chkP p = 0
  · rw [if_pos hz]
    rw [hz] at hc ⊢
    have hok := kok_rules hz
    obtain ⟨hv1, hv2, _, h24⟩ := chkP_zero hz
    obtain ⟨va, vb, rs⟩ := p
    simp only at hin hbig hsz hc hok hv1 hv2 h24 ⊢
    obtain ⟨na, rfl⟩ := Int.eq_ofNat_of_zero_le (show 0 ≤ va by omega)
    obtain ⟨nb, rfl⟩ := Int.eq_ofNat_of_zero_le (show 0 ≤ vb by omega)
    have hp : (256 : Nat) ^ 4 = 4294967296 := by decide
    have p1 : MSpec Tryz.prog X 25 [Lp 1000000, Ln .i64 77] (w0 1000000) (.tup []) (w1 1000000 1000001 1000002 [77]) := kPut_0 X 77 (by decide)
    have p2 := WNum_1_4 X [77] na (by omega) (by omega) (by decide)
    have p3 := WNum_1_4 X ([77] ++ leB 4 na) nb (by omega) (by omega) (by rw [List.length_append, leB_length]; decide)
    have p4 := kPut_1 X (([77] ++ leB 4 na) ++ leB 4 nb) (rs.length : Nat) ⟨by omega, by omega⟩ (by rw [List.length_append, List.length_append, leB_length, leB_length]; decide)
    have w1' : IntKind.u64.wrap ((na : Nat) : Int) = ((na : Nat) : Int) := wrap_u64 (by omega)
    have w2' : IntKind.u64.wrap ((nb : Nat) : Int) = ((nb : Nat) : Int) := wrap_u64 (by omega)
    refine PSpec.intro Tryz.func11 rfl (by kernel_rfl) rfl rfl ?_
    intro C
    (refine LWP.seq <| rgN <| K.box rfl rfl rfl .plain <| kas rfl <| kas rfl <| RunK.nil <| LWP.seq <| LWP.seq <| rgN <| K.loadAll rfl rfl rfl .plain ?_; refine kca rfl rfl hc <| kas rfl <| RunK.nil <| LWP.seq <| rgN <| kmv rfl <| kne rfl rfl (r := false) rfl <| RunK.nil <| LWP.condF rfl ?_; refine LWP.skip ?_; refine LWP.seq <| rgN <| K.build rfl rfl (by exact rfl) (by exact nl2 rfl rfl rfl) .plain ?_; refine K.box rfl rfl rfl .plain <| kas rfl <| RunK.nil <| LWP.seq <| rgN <| kmv rfl <| K.callM [(1000000, 14), (1000001, 601), (1000002, 602)] (w1 14 601 602 [77]) (p1) rfl rfl (by exact (And.intro ⟨_, rfl, rfl⟩ trivial)) (by exact (all_cons_true (all_cons_true rfl (all_cons_true rfl rfl)) rfl)) rfl rfl rfl rfl (by exact (.box rfl rfl (.box rfl rfl (.box rfl rfl .nil)))) .plain <| RunK.nil <| LWP.seq <| rgN <| kmv rfl <| kfa rfl rfl ?_; refine kl1 rfl rfl rfl <| kcv rfl w1' ?_; refine K.callM [(1000000, 14), (1000001, 601), (1000002, 602), (1000003, 603)] (w1 14 601 603 ([77] ++ leB 4 na) ++ [(602, none)]) (p2) rfl rfl (by exact (And.intro ⟨_, rfl, rfl⟩ (And.intro ⟨_, rfl, rfl⟩ (And.intro ⟨_, rfl, rfl⟩ trivial)))) (by exact (all_cons_true (all_cons_true rfl (all_cons_true rfl rfl)) (all_cons_true (all_cons_true rfl rfl) (all_cons_true (all_cons_true rfl rfl) rfl)))) rfl rfl rfl rfl (by exact (.box rfl rfl (.box rfl rfl (.box rfl rfl (.dead rfl .nil))))) .plain <| RunK.nil <| LWP.seq <| rgN <| kmv rfl <| kfa rfl rfl ?_; refine kl1 rfl rfl rfl <| kcv rfl w2' ?_; refine K.callM [(1000000, 14), (1000001, 601), (1000002, 603), (1000003, 604)] (w1 14 601 604 (([77] ++ leB 4 na) ++ leB 4 nb) ++ [(603, none)]) (p3) rfl rfl (by exact (And.intro ⟨_, rfl, rfl⟩ (And.intro ⟨_, rfl, rfl⟩ (And.intro ⟨_, rfl, rfl⟩ trivial)))) (by exact (all_cons_true (all_cons_true rfl (all_cons_true rfl rfl)) (all_cons_true (all_cons_true rfl rfl) (all_cons_true (all_cons_true rfl (all_cons_true rfl (all_cons_true rfl (all_cons_true rfl (all_cons_true rfl rfl))))) rfl)))) rfl rfl rfl rfl (by exact (.box rfl rfl (.box rfl rfl (.box rfl rfl (.dead rfl .nil))))) .plain <| RunK.nil <| LWP.seq <| rgN <| kmv rfl <| kfa rfl rfl ?_; refine kl1 rfl rfl rfl <| K.lenX rfl SliceT.h rfl .plain ?_; refine K.callM [(1000000, 14), (1000001, 601), (1000002, 604), (1000003, 605)] (w1 14 601 605 ((([77] ++ leB 4 na) ++ leB 4 nb) ++ [o8 (rs.length : Nat)]) ++ [(604, none)]) (p4) rfl rfl (by exact (And.intro ⟨_, rfl, rfl⟩ (And.intro ⟨_, rfl, rfl⟩ (And.intro ⟨_, rfl, rfl⟩ trivial)))) (by exact (all_cons_true (all_cons_true rfl (all_cons_true rfl rfl)) (all_cons_true (all_cons_true rfl rfl) (all_cons_true (all_cons_true rfl (all_cons_true rfl (all_cons_true rfl (all_cons_true rfl (all_cons_true rfl (all_cons_true rfl (all_cons_true rfl (all_cons_true rfl (all_cons_true rfl rfl))))))))) rfl)))) rfl rfl rfl rfl (by exact (.box rfl rfl (.box rfl rfl (.box rfl rfl (.dead rfl .nil))))) .plain <| RunK.nil <| LWP.seq <| LWP.seq <| rgN <| kfa rfl rfl ?_; refine kl1 rfl rfl rfl <| K.lenX rfl SliceT.h rfl .plain ?_; refine kmv rfl <| RunK.nil <| LWP.block ?_)
    have hfin : encP ⟨(na : Nat), (nb : Nat), rs⟩ = ((([77] ++ leB 4 na) ++ leB 4 nb) ++ [o8 (rs.length : Nat)]) ++ encRs rs := by
      unfold encP
      simp only [Int.toNat_natCast]
      simp
    rw [hfin]
    have hPl : ((([77] ++ leB 4 na) ++ leB 4 nb) ++ [o8 (rs.length : Nat)]).length = 10 := by simp only [List.length_append, leB_length, List.length_singleton]
    generalize ((([77] ++ leB 4 na) ++ leB 4 nb) ++ [o8 (rs.length : Nat)]) = P at *
    refine LWP.loop (fun m σ => ∃ i : Nat, i ≤ rs.length ∧ m = rs.length - i ∧ σ = eeSt (P ++ encRs (rs.take i)) (na : Nat) (nb : Nat) ad rs.length cap i X) rs.length
      ⟨eeSt (P ++ encRs (rs.take 0)) (na : Nat) (nb : Nat) ad rs.length cap 0 X, by
        rw [show P ++ encRs (rs.take 0) = P from List.append_nil _]
        exact Le.ofR [(500, 605)] (by exact ⟨rfl, rfl, rfl, rfl, rfl, trivial⟩) (by repeat' (first | exact trivial | refine And.intro ⟨_, rfl, ?_⟩ ?_ | refine And.intro ⟨_, rfl⟩ ?_ | rfl | exact Box.ren_bytes _ _ _ _ | exact Box.ren_vals _ _ _ _ | exact Box.ren_mid rfl)) (by exact rfl) (by exact rfl) (by repeat' (first | refine all_cons_true ?_ ?_ | rfl | exact bytes_inUse | exact vals_inUse | exact mid_inUse rfl)) (by exact rfl) (by exact rfl), 0, Nat.zero_le _, rfl, rfl⟩ ?_
    rintro m σ ⟨i, hi, rfl, rfl⟩
    by_cases hlt : i < rs.length
    · obtain ⟨r, hr⟩ : ∃ r, rs[i]? = some r := ⟨_, List.getElem?_eq_getElem hlt⟩
      obtain ⟨blk, off, arr, el, fr, ead, ecap, rfl, hX, hsiz, hcs, g1, g2, g3, hE⟩ := hin.get hr
      have hio : off + Int.toNat (i : Int) * 3 = off + i * 3 := by simp
      have hBl : (P ++ encRs (rs.take i)).length ≤ 10 + 24 * 10000 := by
        have := kRs_len (l := rs.take i) (fun r hr => ⟨(hok r (List.mem_of_mem_take hr)).2.2.2, (hok r (List.mem_of_mem_take hr)).2.2.1⟩)
        rw [List.length_take] at this
        rw [List.length_append, hPl]; omega
      have hnext : P ++ encRs (rs.take (i + 1)) = (P ++ encRs (rs.take i)) ++ encR r := by
        rw [take_snoc hr, encRs_app, List.append_assoc]
        simp [encRs]
      have hadd : IntKind.i64.wrap (((i : Nat) : Int) + 1) = ((i + 1 : Nat) : Int) := by rw [wrap_i64 (by omega)]; omega
      obtain ⟨k1, k2, k3, k4⟩ := hok r (List.mem_of_getElem? hr)
      have q := kPutRule X (P ++ encRs (rs.take i)) r ead ecap hE k1 k2 k3 k4 (by omega)
      rw [← hnext] at q
      (refine LWP.seq <| rgN <| klt rfl rfl (decide_eq_true (by omega)) <| RunK.nil <| LWP.seq <| LWP.condT rfl ?_; refine LWP.skip ?_; refine LWP.seq <| LWP.block <| LWP.seq <| rgN <| K.indexX rfl rfl SliceT.h (by omega) hio .plain <| K.loadXagg rfl hX (by kernel_rfl) hsiz hcs .plain <| K.alloc rfl .plain ?_; refine K.storeAll rfl rfl rfl rfl rfl rfl .plain ?_; refine RunK.nil <| rgN <| kmv rfl <| K.loadAll rfl rfl rfl .plain ?_; refine K.callM [(1000000, 14), (1000001, 601), (1000002, 500), (1000003, 605)] (w1 14 601 605 (P ++ encRs (rs.take (i + 1))) ++ [(500, none)]) (q) rfl rfl (by exact (And.intro ⟨_, rfl, rfl⟩ (And.intro ⟨_, rfl, rfl⟩ (And.intro ⟨_, rfl, (Box.ren_bytes _ _ _ _)⟩ trivial)))) (by exact (all_cons_true (all_cons_true rfl (all_cons_true rfl rfl)) (all_cons_true (all_cons_true rfl rfl) (all_cons_true bytes_inUse rfl)))) rfl rfl rfl rfl (by exact (.box rfl rfl (.box rfl rfl (.box rfl (Box.ren_bytes _ _ _ _) (.dead rfl .nil))))) .plain <| RunK.nil <| rgN <| kad rfl rfl hadd <| kmv rfl <| RunK.nil ?_)
      exact ⟨_, eeSt (P ++ encRs (rs.take (i + 1))) (na : Nat) (nb : Nat) (some ⟨blk, off, none⟩) rs.length cap (i + 1) X, by omega, Le.ofR [(500, 605)] (by exact ⟨rfl, rfl, rfl, rfl, rfl, trivial⟩) (by repeat' (first | exact trivial | refine And.intro ⟨_, rfl, ?_⟩ ?_ | refine And.intro ⟨_, rfl⟩ ?_ | rfl | exact Box.ren_bytes _ _ _ _ | exact Box.ren_vals _ _ _ _ | exact Box.ren_mid rfl)) (by exact rfl) (by exact rfl) (by repeat' (first | refine all_cons_true ?_ ?_ | rfl | exact bytes_inUse | exact vals_inUse | exact mid_inUse rfl)) (by exact rfl) (by exact rfl), i + 1, by omega, rfl, rfl⟩
    · have e : i = rs.length := by omega
      subst e
      rw [List.take_length]
      have q := String_1 X (P ++ encRs rs)
      (refine LWP.seq <| rgN <| klt rfl rfl (decide_eq_false (by omega)) <| RunK.nil <| LWP.seq <| LWP.condF rfl ?_; refine LWP.exit <| LWP.seq <| rgN <| kmv rfl <| K.callM [(1000000, 14), (1000001, 601), (1000002, 500)] (w1 14 601 500 (P ++ encRs rs)) (q) rfl rfl (by exact (And.intro ⟨_, rfl, rfl⟩ (And.intro ⟨_, rfl, rfl⟩ (And.intro ⟨_, rfl, (Box.ren_bytes _ _ _ _)⟩ trivial)))) (by exact (all_cons_true (all_cons_true rfl (all_cons_true rfl rfl)) (all_cons_true (all_cons_true rfl rfl) (all_cons_true bytes_inUse rfl)))) rfl rfl rfl rfl (by exact (.box rfl rfl (.box rfl rfl (.box rfl (Box.ren_bytes _ _ _ _) .nil)))) .plain <| kas rfl <| kas rfl <| RunK.nil <| LWP.ret ?_)
      exact ⟨[_, _], ⟨rfl, rfl, trivial⟩, rfl⟩
  · rw [if_neg hz]
    have hne : (chkP p != 0) = true := by rw [bne_iff_ne]; exact hz
    generalize chkP p = ce at *
    refine PSpec.intro Tryz.func11 rfl (by kernel_rfl) rfl rfl ?_
    intro C
    (refine LWP.seq <| rgN <| K.box rfl rfl rfl .plain <| kas rfl <| kas rfl <| RunK.nil <| LWP.seq <| LWP.seq <| rgN <| K.loadAll rfl rfl rfl .plain ?_; refine kca rfl rfl hc <| kas rfl <| RunK.nil <| LWP.seq <| rgN <| kmv rfl <| kne rfl rfl hne <| RunK.nil <| LWP.condT rfl ?_; refine LWP.seq <| rgN <| kmv rfl <| kas rfl <| kas rfl <| RunK.nil <| LWP.ret ?_)
    exact ⟨[_, _], ⟨rfl, rfl, trivial⟩, rfl⟩
end Go.Proofs.YtamplgnbbanamaaGreatDoor
end
section
namespace Go.Proofs.YtamplgnbbanamaaGreatDoor
open Go Go.Lg Go.Lg.Fml Go.Lg.Fld Go.Lg.Arith
set_option maxRecDepth 100000
theorem InsIn.one {X : Nat → Option Obj} {ad : Option Addr} {l : List Ins} (h : InsIn X ad l) {i : Nat} {x : Ins} (hx : l[i]? = some x) : In2 x.k.2 := (h.small x (List.mem_of_getElem? hx)).2.2.2
variable (X : Nat → Option Obj)
set_option maxHeartbeats 3200000 in
theorem kEq (ad ad2 : Option Addr) (cap cap2 : Nat) (a b : List Ins) (ha : InsIn X ad a) (hb : InsIn X ad2 b) (hbig : a.length < 4611686018427387904) :
    PSpec Tryz.prog X 82 [Lx ad a.length cap, Lx ad2 b.length cap2] (Lb (decide (a = b))) := by
  refine PSpec.intro Tryz.func82 rfl (by kernel_rfl) rfl rfl ?_
  intro C
  by_cases hl : a.length = b.length
  · (refine LWP.seq <| rgN <| kas rfl <| RunK.nil <| LWP.seq <| LWP.seq <| rgN <| kmv rfl <| K.lenX rfl SliceT.h rfl .plain ?_; refine kmv rfl <| K.lenX rfl SliceT.h rfl .plain ?_; refine kne rfl rfl (r := false) (by rw [hl]; simp) <| RunK.nil <| LWP.condF rfl ?_; refine LWP.skip ?_; refine LWP.seq <| LWP.seq <| rgN <| kmv rfl <| K.lenX rfl SliceT.h rfl .plain ?_; refine kmv rfl <| RunK.nil <| LWP.block ?_)
    refine LWP.loop (fun m σ => ∃ i : Nat, i ≤ a.length ∧ m = a.length - i ∧ a.take i = b.take i ∧ σ = ⟨[(0, Lx ad a.length cap), (1, Lx ad2 b.length cap2), (12, Ln .i64 (a.length : Nat)), (13, Ln .i64 (i : Nat))], [], X⟩) a.length
      ⟨_, Le.of (by exact ⟨rfl, rfl, rfl, rfl, trivial⟩) (by exact trivial) (by exact rfl) (by exact rfl) (by exact rfl), 0, by omega, rfl, rfl, rfl⟩ ?_
    rintro m σ ⟨i, hi, rfl, hpre, rfl⟩
    by_cases hlt : i < a.length
    · obtain ⟨f, hf⟩ : ∃ v, a[i]? = some v := ⟨_, List.getElem?_eq_getElem hlt⟩
      obtain ⟨f', hf'⟩ : ∃ v, b[i]? = some v := ⟨_, List.getElem?_eq_getElem (by omega)⟩
      obtain ⟨blk, off, arr, el, fr, rfl, hX, hsz, hcells, _⟩ := ha.at hf
      obtain ⟨blk', off', arr', el', fr', rfl, hX', hsz', hcells', _⟩ := hb.at hf'
      have hio : off + Int.toNat (i : Int) * 6 = off + i * 6 := by simp
      have hio' : off' + Int.toNat (i : Int) * 6 = off' + i * 6 := by simp
      have qe := insEq (x := f) (y := f') (ha.one hf) (hb.one hf')
      by_cases hq : f = f'
      · rw [decide_eq_true hq] at qe
        (refine LWP.seq <| rgN <| klt rfl rfl (decide_eq_true (by omega)) <| RunK.nil <| LWP.seq <| LWP.condT rfl ?_; refine LWP.skip ?_; refine LWP.seq <| LWP.block <| LWP.seq <| rgN <| kmv rfl <| kas rfl <| RunK.nil <| LWP.seq <| rgD mixed <| kmv rfl <| kmv rfl <| K.indexX rfl rfl SliceT.h (by omega) hio .plain <| K.loadXagg rfl hX (by kernel_rfl) hsz hcells .plain <| kmv rfl ?_; refine kmv rfl <| K.indexX rfl rfl SliceT.h (by omega) hio' .plain <| K.loadXagg rfl hX' (by kernel_rfl) hsz' hcells' .plain <| K.aggEq (us := insV f) (vs := insV f') rfl rfl rfl rfl (by kernel_rfl) (eqT_expr true qe) (.inr ⟨rfl, rfl⟩) .plain <| RunK.nil <| rgA ?_; refine LWP.condF rfl ?_; refine LWP.skip ?_; refine rgN <| kad rfl rfl (wrap_i64 (by omega)) <| kmv rfl <| RunK.nil ?_)
        exact ⟨_, _, by omega, Le.of (by exact ⟨rfl, rfl, rfl, rfl, trivial⟩) (by exact trivial) (by exact rfl) (by exact rfl) (by exact rfl), i + 1, by omega, rfl, by rw [take_snoc hf, take_snoc hf', hpre, hq], rfl⟩
      · rw [decide_eq_false (show ¬a = b from fun e => hq (by rw [e, hf'] at hf; exact (Option.some.inj hf).symm))]
        rw [decide_eq_false hq] at qe
        (refine LWP.seq <| rgN <| klt rfl rfl (decide_eq_true (by omega)) <| RunK.nil <| LWP.seq <| LWP.condT rfl ?_; refine LWP.skip ?_; refine LWP.seq <| LWP.block <| LWP.seq <| rgN <| kmv rfl <| kas rfl <| RunK.nil <| LWP.seq <| rgD mixed <| kmv rfl <| kmv rfl <| K.indexX rfl rfl SliceT.h (by omega) hio .plain <| K.loadXagg rfl hX (by kernel_rfl) hsz hcells .plain <| kmv rfl ?_; refine kmv rfl <| K.indexX rfl rfl SliceT.h (by omega) hio' .plain <| K.loadXagg rfl hX' (by kernel_rfl) hsz' hcells' .plain <| K.aggEq (us := insV f) (vs := insV f') rfl rfl rfl rfl (by kernel_rfl) (eqT_expr false qe) (.inr ⟨rfl, rfl⟩) .plain <| RunK.nil <| rgA ?_; refine LWP.condT rfl ?_; refine LWP.seq <| rgN <| kas rfl <| RunK.nil <| LWP.ret ?_)
        exact ⟨[_], ⟨rfl, trivial⟩, rfl⟩
    · have e : i = a.length := by omega
      subst e
      rw [List.take_length, List.take_of_length_le (by omega)] at hpre
      rw [decide_eq_true hpre]
      (refine LWP.seq <| rgN <| klt rfl rfl (decide_eq_false (by omega)) <| RunK.nil <| LWP.seq <| LWP.condF rfl ?_; refine LWP.exit <| LWP.seq <| rgN <| kas rfl <| RunK.nil <| LWP.ret ?_)
      exact ⟨[_], ⟨rfl, trivial⟩, rfl⟩
  · rw [decide_eq_false (show ¬a = b from fun e => hl (by rw [e]))]
    (refine LWP.seq <| rgN <| kas rfl <| RunK.nil <| LWP.seq <| LWP.seq <| rgN <| kmv rfl <| K.lenX rfl SliceT.h rfl .plain ?_; refine kmv rfl <| K.lenX rfl SliceT.h rfl .plain ?_; refine kne rfl rfl (r := true) (by rw [bne_iff_ne]; omega) <| RunK.nil <| LWP.condT rfl ?_; refine LWP.seq <| rgN <| kas rfl <| RunK.nil <| LWP.ret ?_)
    exact ⟨[_], ⟨rfl, trivial⟩, rfl⟩
theorem kSameCode (ad ad2 : Option Addr) (cap cap2 : Nat) (a b : List Ins) (ha : InsIn X ad a) (hb : InsIn X ad2 b) (hbig : a.length < 4611686018427387904) :
    PSpec Tryz.prog X 66 [Lx ad a.length cap, Lx ad2 b.length cap2] (Lb (decide (a = b))) := by
  have hq := kEq X ad ad2 cap cap2 a b ha hb hbig
  refine PSpec.intro Tryz.func66 rfl (by kernel_rfl) rfl rfl ?_
  intro C
  (refine LWP.seq <| rgN <| kas rfl <| RunK.nil <| LWP.seq <| rgN <| kmv rfl <| kmv rfl <| kca rfl rfl hq <| kas rfl <| RunK.nil <| LWP.ret ?_)
  exact ⟨[_], ⟨rfl, trivial⟩, rfl⟩
set_option maxHeartbeats 3200000 in
theorem kEqCodes (ad ad2 : Option Addr) (cap cap2 : Nat) (a b : List (List Ins)) (ha : CodesIn X ad a) (hb : CodesIn X ad2 b) (hbig : a.length < 4611686018427387904) (hfs : ∀ c ∈ a, c.length < 4611686018427387904) :
    PSpec Tryz.prog X 65 [Lx ad a.length cap, Lx ad2 b.length cap2, Lf 66 []] (Lb (decide (a = b))) := by
  refine PSpec.intro Tryz.func65 rfl (by kernel_rfl) rfl rfl ?_
  intro C
  by_cases hl : a.length = b.length
  · (refine LWP.seq <| rgN <| kas rfl <| RunK.nil <| LWP.seq <| LWP.seq <| rgN <| kmv rfl <| K.lenX rfl SliceT.h rfl .plain ?_; refine kmv rfl <| K.lenX rfl SliceT.h rfl .plain ?_; refine kne rfl rfl (r := false) (by rw [hl]; simp) <| RunK.nil <| LWP.condF rfl ?_; refine LWP.skip ?_; refine LWP.seq <| LWP.seq <| rgN <| kmv rfl <| K.lenX rfl SliceT.h rfl .plain ?_; refine kmv rfl <| RunK.nil <| LWP.block ?_)
    refine LWP.loop (fun m σ => ∃ i : Nat, i ≤ a.length ∧ m = a.length - i ∧ a.take i = b.take i ∧ σ = ⟨[(1, Lx ad2 b.length cap2), (2, Lf 66 []), (15, Lx ad a.length cap), (16, Ln .i64 (a.length : Nat)), (17, Ln .i64 (i : Nat))], [], X⟩) a.length
      ⟨_, Le.of (by exact ⟨rfl, rfl, rfl, rfl, rfl, trivial⟩) (by exact trivial) (by exact rfl) (by exact rfl) (by exact rfl), 0, by omega, rfl, rfl, rfl⟩ ?_
    rintro m σ ⟨i, hi, rfl, hpre, rfl⟩
    by_cases hlt : i < a.length
    · obtain ⟨c, hc⟩ : ∃ v, a[i]? = some v := ⟨_, List.getElem?_eq_getElem hlt⟩
      obtain ⟨d, hd⟩ : ∃ v, b[i]? = some v := ⟨_, List.getElem?_eq_getElem (by omega)⟩
      obtain ⟨blk, off, arr, el, fr, fad, fcap, rfl, hX, hcs, hF⟩ := ha.get hc
      obtain ⟨blk', off', arr', el', fr', fad', fcap', rfl, hX', hcs', hF'⟩ := hb.get hd
      have hio : off + Int.toNat (i : Int) * 1 = off + i * 1 := by simp
      have hio' : off' + Int.toNat (i : Int) * 1 = off' + i * 1 := by simp
      have hq := kSameCode X fad fad' fcap fcap' c d hF hF' (hfs c (List.mem_of_getElem? hc))
      by_cases he : c = d
      · rw [decide_eq_true he] at hq
        (refine LWP.seq <| rgN <| klt rfl rfl (decide_eq_true (by omega)) <| RunK.nil <| LWP.seq <| LWP.condT rfl ?_; refine LWP.skip ?_; refine LWP.seq <| LWP.block <| LWP.seq <| rgN <| kmv rfl <| K.indexX rfl rfl SliceT.h (by omega) hio .plain <| K.loadX rfl hX rfl hcs .plain <| kas rfl <| kas rfl <| RunK.nil <| LWP.seq <| rgN <| kmv rfl <| kmv rfl ?_; refine K.indexX rfl rfl SliceT.h (by omega) hio' .plain <| K.loadX rfl hX' rfl hcs' .plain <| kas rfl <| RunK.nil <| LWP.seq <| rgN <| kmv rfl <| kmv rfl <| kmv rfl <| K.callF (caps := []) rfl rfl rfl hq .plain ?_; refine K.not rfl rfl .plain <| RunK.nil <| LWP.condF rfl ?_; refine LWP.skip ?_; refine rgN <| kad rfl rfl (wrap_i64 (by omega)) <| kmv rfl <| RunK.nil ?_)
        exact ⟨_, _, by omega, Le.of (by exact ⟨rfl, rfl, rfl, rfl, rfl, trivial⟩) (by exact trivial) (by exact rfl) (by exact rfl) (by exact rfl), i + 1, by omega, rfl, by rw [take_snoc hc, take_snoc hd, hpre, he], rfl⟩
      · rw [decide_eq_false he] at hq
        rw [decide_eq_false (show ¬a = b from fun e => he (by rw [e, hd] at hc; exact (Option.some.inj hc).symm))]
        (refine LWP.seq <| rgN <| klt rfl rfl (decide_eq_true (by omega)) <| RunK.nil <| LWP.seq <| LWP.condT rfl ?_; refine LWP.skip ?_; refine LWP.seq <| LWP.block <| LWP.seq <| rgN <| kmv rfl <| K.indexX rfl rfl SliceT.h (by omega) hio .plain <| K.loadX rfl hX rfl hcs .plain <| kas rfl <| kas rfl <| RunK.nil <| LWP.seq <| rgN <| kmv rfl <| kmv rfl ?_; refine K.indexX rfl rfl SliceT.h (by omega) hio' .plain <| K.loadX rfl hX' rfl hcs' .plain <| kas rfl <| RunK.nil <| LWP.seq <| rgN <| kmv rfl <| kmv rfl <| kmv rfl <| K.callF (caps := []) rfl rfl rfl hq .plain ?_; refine K.not rfl rfl .plain <| RunK.nil <| LWP.condT rfl ?_; refine LWP.seq <| rgN <| kas rfl <| RunK.nil <| LWP.ret ?_)
        exact ⟨[_], ⟨rfl, trivial⟩, rfl⟩
    · have e : i = a.length := by omega
      subst e
      rw [List.take_length, List.take_of_length_le (by omega)] at hpre
      rw [decide_eq_true hpre]
      (refine LWP.seq <| rgN <| klt rfl rfl (decide_eq_false (by omega)) <| RunK.nil <| LWP.seq <| LWP.condF rfl ?_; refine LWP.exit <| LWP.seq <| rgN <| kas rfl <| RunK.nil <| LWP.ret ?_)
      exact ⟨[_], ⟨rfl, trivial⟩, rfl⟩
  · rw [decide_eq_false (show ¬a = b from fun e => hl (by rw [e]))]
    (refine LWP.seq <| rgN <| kas rfl <| RunK.nil <| LWP.seq <| LWP.seq <| rgN <| kmv rfl <| K.lenX rfl SliceT.h rfl .plain ?_; refine kmv rfl <| K.lenX rfl SliceT.h rfl .plain ?_; refine kne rfl rfl (r := true) (by rw [bne_iff_ne]; omega) <| RunK.nil <| LWP.condT rfl ?_; refine LWP.seq <| rgN <| kas rfl <| RunK.nil <| LWP.ret ?_)
    exact ⟨[_], ⟨rfl, trivial⟩, rfl⟩
set_option maxHeartbeats 3200000 in
theorem kSameRule (r q : Rl) (ad ad2 : Option Addr) (cap cap2 : Nat) (ha : CodesIn X ad r.ex) (hb : CodesIn X ad2 q.ex) (hbig : r.ex.length < 4611686018427387904) (hfs : ∀ c ∈ r.ex, c.length < 4611686018427387904) :
    PSpec Tryz.prog X 43 [LPg r.nw r.old ad r.ex.length cap, LPg q.nw q.old ad2 q.ex.length cap2] (Lb (decide (r = q))) := by
  refine PSpec.intro Tryz.func43 rfl (by kernel_rfl) rfl rfl ?_
  intro C
  obtain ⟨n1, o1, x1⟩ := r
  obtain ⟨n2, o2, x2⟩ := q
  simp only at ha hb hbig hfs ⊢
  by_cases h1 : n1 = n2
  case neg =>
    rw [decide_eq_false (fun e => h1 (congrArg Rl.nw e))]
    (refine LWP.seq <| rgN <| K.box rfl rfl rfl .plain <| K.box rfl rfl rfl .plain <| kas rfl <| RunK.nil <| LWP.seq <| rgN <| kfa rfl rfl ?_; refine kl1 rfl rfl rfl <| kfa rfl rfl ?_; refine kl1 rfl rfl rfl <| keq rfl rfl (beq_eq_false_iff_ne.2 h1) <| kmv rfl <| RunK.passed rfl rfl rfl <| RunK.passed rfl rfl rfl <| RunK.passed rfl rfl rfl <| RunK.passed rfl rfl rfl <| RunK.passed rfl rfl rfl <| kpf rfl rfl <| kmv rfl <| RunK.passed rfl rfl rfl <| RunK.passed rfl rfl rfl <| RunK.passed rfl rfl rfl <| RunK.passed rfl rfl rfl ?_; refine RunK.passed rfl rfl rfl <| kpf rfl rfl <| kas rfl <| RunK.nil <| LWP.ret ?_)
    exact ⟨[_], ⟨rfl, trivial⟩, rfl⟩
  by_cases h2 : o1 = o2
  case neg =>
    rw [decide_eq_false (fun e => h2 (congrArg Rl.old e))]
    (refine LWP.seq <| rgN <| K.box rfl rfl rfl .plain <| K.box rfl rfl rfl .plain <| kas rfl <| RunK.nil <| LWP.seq <| rgN <| kfa rfl rfl ?_; refine kl1 rfl rfl rfl <| kfa rfl rfl ?_; refine kl1 rfl rfl rfl <| keq rfl rfl (beq_iff_eq.2 h1) <| kmv rfl <| K.fieldAddr rfl rfl (.taken rfl rfl) ?_; refine K.loadOne rfl rfl rfl (.taken rfl rfl) ?_; refine K.fieldAddr rfl rfl (.taken rfl rfl) ?_; refine K.loadOne rfl rfl rfl (.taken rfl rfl) ?_; refine K.eql rfl rfl (beq_eq_false_iff_ne.2 h2) (.taken rfl rfl) ?_; refine kpt rfl rfl <| kmv rfl <| RunK.passed rfl rfl rfl <| RunK.passed rfl rfl rfl <| RunK.passed rfl rfl rfl <| RunK.passed rfl rfl rfl <| RunK.passed rfl rfl rfl <| kpf rfl rfl <| kas rfl <| RunK.nil <| LWP.ret ?_)
    exact ⟨[_], ⟨rfl, trivial⟩, rfl⟩
  have hF := kEqCodes X ad ad2 cap cap2 x1 x2 ha hb hbig hfs
  have e : decide ((⟨n1, o1, x1⟩ : Rl) = ⟨n2, o2, x2⟩) = decide (x1 = x2) := by
    subst h1 h2
    simp
  rw [e]
  generalize decide (x1 = x2) = d at *
  (refine LWP.seq <| rgN <| K.box rfl rfl rfl .plain <| K.box rfl rfl rfl .plain <| kas rfl <| RunK.nil <| LWP.seq <| rgN <| kfa rfl rfl ?_; refine kl1 rfl rfl rfl <| kfa rfl rfl ?_; refine kl1 rfl rfl rfl <| keq rfl rfl (beq_iff_eq.2 h1) <| kmv rfl <| K.fieldAddr rfl rfl (.taken rfl rfl) ?_; refine K.loadOne rfl rfl rfl (.taken rfl rfl) ?_; refine K.fieldAddr rfl rfl (.taken rfl rfl) ?_; refine K.loadOne rfl rfl rfl (.taken rfl rfl) ?_; refine K.eql rfl rfl (beq_iff_eq.2 h2) (.taken rfl rfl) ?_; refine kpt rfl rfl <| kmv rfl <| K.fieldAddr rfl rfl (.taken rfl rfl) ?_; refine K.loadOne rfl rfl rfl (.taken rfl rfl) ?_; refine K.fieldAddr rfl rfl (.taken rfl rfl) ?_; refine K.loadOne rfl rfl rfl (.taken rfl rfl) ?_; refine gca rfl rfl hF rfl rfl <| kpt rfl rfl <| kas rfl <| RunK.nil <| LWP.ret ?_)
  exact ⟨[_], ⟨rfl, trivial⟩, rfl⟩
set_option maxHeartbeats 3200000 in
theorem kEqRules (ad ad2 : Option Addr) (cap cap2 : Nat) (a b : List Rl) (ha : RulesIn X ad a) (hb : RulesIn X ad2 b) (hbig : a.length < 4611686018427387904) (hsz : sizeR a) :
    PSpec Tryz.prog X 42 [Lx ad a.length cap, Lx ad2 b.length cap2, Lf 43 []] (Lb (decide (a = b))) := by
  refine PSpec.intro Tryz.func42 rfl (by kernel_rfl) rfl rfl ?_
  intro C
  by_cases hl : a.length = b.length
  · (refine LWP.seq <| rgN <| kas rfl <| RunK.nil <| LWP.seq <| LWP.seq <| rgN <| kmv rfl <| K.lenX rfl SliceT.h rfl .plain ?_; refine kmv rfl <| K.lenX rfl SliceT.h rfl .plain ?_; refine kne rfl rfl (r := false) (by rw [hl]; simp) <| RunK.nil <| LWP.condF rfl ?_; refine LWP.skip ?_; refine LWP.seq <| LWP.seq <| rgN <| kmv rfl <| K.lenX rfl SliceT.h rfl .plain ?_; refine kmv rfl <| RunK.nil <| LWP.block ?_)
    refine LWP.loop (fun m σ => ∃ i : Nat, i ≤ a.length ∧ m = a.length - i ∧ a.take i = b.take i ∧ σ = ⟨[(1, Lx ad2 b.length cap2), (2, Lf 43 []), (15, Lx ad a.length cap), (16, Ln .i64 (a.length : Nat)), (17, Ln .i64 (i : Nat))], [], X⟩) a.length
      ⟨_, Le.of (by exact ⟨rfl, rfl, rfl, rfl, rfl, trivial⟩) (by exact trivial) (by exact rfl) (by exact rfl) (by exact rfl), 0, by omega, rfl, rfl, rfl⟩ ?_
    rintro m σ ⟨i, hi, rfl, hpre, rfl⟩
    by_cases hlt : i < a.length
    · obtain ⟨c, hc⟩ : ∃ v, a[i]? = some v := ⟨_, List.getElem?_eq_getElem hlt⟩
      obtain ⟨d, hd⟩ : ∃ v, b[i]? = some v := ⟨_, List.getElem?_eq_getElem (by omega)⟩
      obtain ⟨blk, off, arr, el, fr, fad, fcap, rfl, hX, hsz1, hcs, _, _, _, hF⟩ := ha.get hc
      obtain ⟨blk', off', arr', el', fr', fad', fcap', rfl, hX', hsz2, hcs', _, _, _, hF'⟩ := hb.get hd
      have hio : off + Int.toNat (i : Int) * 3 = off + i * 3 := by simp
      have hio' : off' + Int.toNat (i : Int) * 3 = off' + i * 3 := by simp
      obtain ⟨z1, z2⟩ := hsz c (List.mem_of_getElem? hc)
      have hq := kSameRule X c d fad fad' fcap fcap' hF hF' (by omega) (fun x hx => by have := z2 x hx; omega)
      by_cases he : c = d
      · rw [decide_eq_true he] at hq
        (refine LWP.seq <| rgN <| klt rfl rfl (decide_eq_true (by omega)) <| RunK.nil <| LWP.seq <| LWP.condT rfl ?_; refine LWP.skip ?_; refine LWP.seq <| LWP.block <| LWP.seq <| rgN <| kmv rfl <| K.indexX rfl rfl SliceT.h (by omega) hio .plain <| K.loadXagg rfl hX (by kernel_rfl) hsz1 hcs .plain <| K.alloc rfl .plain ?_; refine kas rfl <| K.storeAll rfl rfl rfl rfl rfl rfl .plain ?_; refine RunK.nil <| LWP.seq <| rgN <| kmv rfl <| kmv rfl <| K.indexX rfl rfl SliceT.h (by omega) hio' .plain <| K.loadXagg rfl hX' (by kernel_rfl) hsz2 hcs' .plain <| K.alloc rfl .plain ?_; refine K.storeAll rfl rfl rfl rfl rfl rfl .plain ?_; refine RunK.nil <| LWP.seq <| rgN <| kmv rfl <| K.loadAll rfl rfl rfl .plain ?_; refine K.loadAll rfl rfl rfl .plain ?_; refine K.callF (caps := []) rfl rfl rfl hq .plain ?_; refine K.not rfl rfl .plain <| RunK.nil <| LWP.condF rfl ?_; refine LWP.skip ?_; refine rgN <| kad rfl rfl (wrap_i64 (by omega)) <| kmv rfl <| RunK.nil ?_)
        exact ⟨_, _, by omega, Le.of (by exact ⟨rfl, rfl, rfl, rfl, rfl, trivial⟩) (by exact trivial) (by exact rfl) (by exact rfl) (by exact rfl), i + 1, by omega, rfl, by rw [take_snoc hc, take_snoc hd, hpre, he], rfl⟩
      · rw [decide_eq_false he] at hq
        rw [decide_eq_false (show ¬a = b from fun e => he (by rw [e, hd] at hc; exact (Option.some.inj hc).symm))]
        (refine LWP.seq <| rgN <| klt rfl rfl (decide_eq_true (by omega)) <| RunK.nil <| LWP.seq <| LWP.condT rfl ?_; refine LWP.skip ?_; refine LWP.seq <| LWP.block <| LWP.seq <| rgN <| kmv rfl <| K.indexX rfl rfl SliceT.h (by omega) hio .plain <| K.loadXagg rfl hX (by kernel_rfl) hsz1 hcs .plain <| K.alloc rfl .plain ?_; refine kas rfl <| K.storeAll rfl rfl rfl rfl rfl rfl .plain ?_; refine RunK.nil <| LWP.seq <| rgN <| kmv rfl <| kmv rfl <| K.indexX rfl rfl SliceT.h (by omega) hio' .plain <| K.loadXagg rfl hX' (by kernel_rfl) hsz2 hcs' .plain <| K.alloc rfl .plain ?_; refine K.storeAll rfl rfl rfl rfl rfl rfl .plain ?_; refine RunK.nil <| LWP.seq <| rgN <| kmv rfl <| K.loadAll rfl rfl rfl .plain ?_; refine K.loadAll rfl rfl rfl .plain ?_; refine K.callF (caps := []) rfl rfl rfl hq .plain ?_; refine K.not rfl rfl .plain <| RunK.nil <| LWP.condT rfl ?_; refine LWP.seq <| rgN <| kas rfl <| RunK.nil <| LWP.ret ?_)
        exact ⟨[_], ⟨rfl, trivial⟩, rfl⟩
    · have e : i = a.length := by omega
      subst e
      rw [List.take_length, List.take_of_length_le (by omega)] at hpre
      rw [decide_eq_true hpre]
      (refine LWP.seq <| rgN <| klt rfl rfl (decide_eq_false (by omega)) <| RunK.nil <| LWP.seq <| LWP.condF rfl ?_; refine LWP.exit <| LWP.seq <| rgN <| kas rfl <| RunK.nil <| LWP.ret ?_)
      exact ⟨[_], ⟨rfl, trivial⟩, rfl⟩
  · rw [decide_eq_false (show ¬a = b from fun e => hl (by rw [e]))]
    (refine LWP.seq <| rgN <| kas rfl <| RunK.nil <| LWP.seq <| LWP.seq <| rgN <| kmv rfl <| K.lenX rfl SliceT.h rfl .plain ?_; refine kmv rfl <| K.lenX rfl SliceT.h rfl .plain ?_; refine kne rfl rfl (r := true) (by rw [bne_iff_ne]; omega) <| RunK.nil <| LWP.condT rfl ?_; refine LWP.seq <| rgN <| kas rfl <| RunK.nil <| LWP.ret ?_)
    exact ⟨[_], ⟨rfl, trivial⟩, rfl⟩
set_option maxHeartbeats 3200000 in
theorem kSame (p q : Pg) (ad ad2 : Option Addr) (cap cap2 : Nat) (ha : RulesIn X ad p.rs) (hb : RulesIn X ad2 q.rs) (hbig : p.rs.length < 4611686018427387904) (hsz : sizeR p.rs) :
    PSpec Tryz.prog X 19 [LPg p.va p.vb ad p.rs.length cap, LPg q.va q.vb ad2 q.rs.length cap2] (Lb (decide (p = q))) := by
  refine PSpec.intro Tryz.func19 rfl (by kernel_rfl) rfl rfl ?_
  intro C
  obtain ⟨n1, o1, x1⟩ := p
  obtain ⟨n2, o2, x2⟩ := q
  simp only at ha hb hbig hsz ⊢
  by_cases h1 : n1 = n2
  case neg =>
    rw [decide_eq_false (fun e => h1 (congrArg Pg.va e))]
    (refine LWP.seq <| rgN <| K.box rfl rfl rfl .plain <| K.box rfl rfl rfl .plain <| kas rfl <| RunK.nil <| LWP.seq <| rgN <| kfa rfl rfl ?_; refine kl1 rfl rfl rfl <| kfa rfl rfl ?_; refine kl1 rfl rfl rfl <| keq rfl rfl (beq_eq_false_iff_ne.2 h1) <| kmv rfl <| RunK.passed rfl rfl rfl <| RunK.passed rfl rfl rfl <| RunK.passed rfl rfl rfl <| RunK.passed rfl rfl rfl <| RunK.passed rfl rfl rfl <| kpf rfl rfl <| kmv rfl <| RunK.passed rfl rfl rfl <| RunK.passed rfl rfl rfl <| RunK.passed rfl rfl rfl <| RunK.passed rfl rfl rfl ?_; refine RunK.passed rfl rfl rfl <| kpf rfl rfl <| kas rfl <| RunK.nil <| LWP.ret ?_)
    exact ⟨[_], ⟨rfl, trivial⟩, rfl⟩
  by_cases h2 : o1 = o2
  case neg =>
    rw [decide_eq_false (fun e => h2 (congrArg Pg.vb e))]
    (refine LWP.seq <| rgN <| K.box rfl rfl rfl .plain <| K.box rfl rfl rfl .plain <| kas rfl <| RunK.nil <| LWP.seq <| rgN <| kfa rfl rfl ?_; refine kl1 rfl rfl rfl <| kfa rfl rfl ?_; refine kl1 rfl rfl rfl <| keq rfl rfl (beq_iff_eq.2 h1) <| kmv rfl <| K.fieldAddr rfl rfl (.taken rfl rfl) ?_; refine K.loadOne rfl rfl rfl (.taken rfl rfl) ?_; refine K.fieldAddr rfl rfl (.taken rfl rfl) ?_; refine K.loadOne rfl rfl rfl (.taken rfl rfl) ?_; refine K.eql rfl rfl (beq_eq_false_iff_ne.2 h2) (.taken rfl rfl) ?_; refine kpt rfl rfl <| kmv rfl <| RunK.passed rfl rfl rfl <| RunK.passed rfl rfl rfl <| RunK.passed rfl rfl rfl <| RunK.passed rfl rfl rfl <| RunK.passed rfl rfl rfl <| kpf rfl rfl <| kas rfl <| RunK.nil <| LWP.ret ?_)
    exact ⟨[_], ⟨rfl, trivial⟩, rfl⟩
  have hF := kEqRules X ad ad2 cap cap2 x1 x2 ha hb hbig hsz
  have e : decide ((⟨n1, o1, x1⟩ : Pg) = ⟨n2, o2, x2⟩) = decide (x1 = x2) := by
    subst h1 h2
    simp
  rw [e]
  generalize decide (x1 = x2) = d at *
  (refine LWP.seq <| rgN <| K.box rfl rfl rfl .plain <| K.box rfl rfl rfl .plain <| kas rfl <| RunK.nil <| LWP.seq <| rgN <| kfa rfl rfl ?_; refine kl1 rfl rfl rfl <| kfa rfl rfl ?_; refine kl1 rfl rfl rfl <| keq rfl rfl (beq_iff_eq.2 h1) <| kmv rfl <| K.fieldAddr rfl rfl (.taken rfl rfl) ?_; refine K.loadOne rfl rfl rfl (.taken rfl rfl) ?_; refine K.fieldAddr rfl rfl (.taken rfl rfl) ?_; refine K.loadOne rfl rfl rfl (.taken rfl rfl) ?_; refine K.eql rfl rfl (beq_iff_eq.2 h2) (.taken rfl rfl) ?_; refine kpt rfl rfl <| kmv rfl <| K.fieldAddr rfl rfl (.taken rfl rfl) ?_; refine K.loadOne rfl rfl rfl (.taken rfl rfl) ?_; refine K.fieldAddr rfl rfl (.taken rfl rfl) ?_; refine K.loadOne rfl rfl rfl (.taken rfl rfl) ?_; refine gca rfl rfl hF rfl rfl <| kpt rfl rfl <| kas rfl <| RunK.nil <| LWP.ret ?_)
  exact ⟨[_], ⟨rfl, trivial⟩, rfl⟩
end Go.Proofs.YtamplgnbbanamaaGreatDoor
end
section
namespace Go.Proofs.YtamplgnbbanamaaGreatDoor
open Go Go.Lg Go.Lg.Fml Go.Lg.Fld Go.Lg.Arith
set_option maxRecDepth 100000
def code0 : List Ins := [⟨2, 0, 0, (false, 0)⟩, ⟨1, 0, 0, (false, 2)⟩, ⟨7, 0, 0, (false, 0)⟩]
theorem small_0 : ∀ x ∈ code0, smallI x := by
  intro x hx
  simp only [code0, List.mem_cons, List.not_mem_nil, or_false] at hx
  rcases hx with rfl | rfl | rfl <;> exact ⟨by decide, by decide, by decide, by show (0 : Int) ≤ _ ∧ _ < _; decide⟩
theorem itoa0 : Lib.itoa 0 = [48] := by
  rw [show (0 : Int) = ((0 : Nat) : Int) from rfl]
  first
    | rfl
    | decide
    | simp [Lib.itoa, Lib.decDigits]
theorem dec2d : Lib.decDigits 2 = [50] := by
  rw [Lib.decDigits_one (by decide)]
  rfl
theorem show0 : showX code0 = [109, 117, 108, 40, 102, 48, 46, 48, 44, 50, 41] := by
  have h1 : textQ 2 = [50] := dec2d
  have h2 := itoa0
  unfold showX
  rw [if_pos (by rfl)]
  show ((wordX 7 ++ [40]) ++ joinS [([102] ++ dg1 0) ++ ([46] ++ dg1 0), textQ (zz (false, 2))]) ++ [41] = _
  rw [show zz (false, 2) = 2 from rfl, h1, show dg1 0 = [48] from h2]
  rfl
variable (X : Nat → Option Obj)
end Go.Proofs.YtamplgnbbanamaaGreatDoor
end
section
namespace Go.Proofs.YtamplgnbbanamaaGreatDoor
open Go Go.Lg Go.Lg.Fld
set_option maxRecDepth 100000
abbrev Ext (X Y : Nat → Option Obj) : Prop := ∀ b o, X b = some o → Y b = some o
theorem row_cell {arr : Array Value} {p sz : Nat} {r : List Value} (h : (arr.toList.drop p).take sz = r) {j : Nat} (hj : j < sz) : arr[p + j]? = r[j]? := by
  rw [← h, List.getElem?_take, if_pos hj, List.getElem?_drop, Array.getElem?_toList]
variable (X : Nat → Option Obj)
end Go.Proofs.YtamplgnbbanamaaGreatDoor
end
section
namespace Go.Proofs.YtamplgnbbanamaaGreatDoor
open Go Go.Lg Go.Lg.Fld
set_option maxRecDepth 100000
theorem reads_rows {X : Nat → Option Obj} {ad : Option Addr} {sz : Nat} {rows : List (List Value)} (hsz : 1 ≤ sz) (hl : ∀ r ∈ rows, r.length = sz) (h : Go.Lg.RowsIn X ad sz rows) : ReadsX X ad rows.flatten := ⟨fun j u hj => by
  have hfl : rows.flatten.length = rows.length * sz := by
    clear h hj
    induction rows with
    | nil => simp
    | cons r t ih =>
      simp only [List.flatten_cons, List.length_append, List.length_cons, ih (fun x hx => hl x (by simp [hx])), hl r (by simp)]
      rw [Nat.add_mul, Nat.one_mul]; omega
  have hjl := (List.getElem?_eq_some_iff.1 hj).1
  have hi : j / sz < rows.length := Nat.div_lt_of_lt_mul (by rw [Nat.mul_comm]; omega)
  obtain ⟨r, hr⟩ : ∃ r, rows[j / sz]? = some r := ⟨_, List.getElem?_eq_getElem hi⟩
  obtain ⟨h1, h2⟩ := flat_row hl (sp := []) hr
  rw [List.append_nil] at h1 h2
  obtain ⟨blk, off, arr, el, fr, e1, e2, e3, e4⟩ := h _ r hr
  have hq : j % sz < sz := Nat.mod_lt _ (by omega)
  have hje : j = j / sz * sz + j % sz := by rw [Nat.mul_comm]; exact (Nat.div_add_mod j sz).symm
  refine ⟨blk, off, arr, el, fr, e1, e2, ?_⟩
  have h3 := row_cell e4 hq
  have h4 : r[j % sz]? = some u := by
    rw [← h2, List.getElem?_take, if_pos hq, List.getElem?_drop, ← hje]; exact hj
  rw [h4] at h3
  rw [hje, ← Nat.add_assoc]; exact h3⟩
end Go.Proofs.YtamplgnbbanamaaGreatDoor
end
section
namespace Go.Proofs.YtamplgnbbanamaaGreatDoor
open Go Go.Lg Go.Lg.Fml Go.Lg.Fld Go.Lg.Arith
set_option maxRecDepth 100000
def RowV (Y : Nat → Option Obj) (vs : List Value) (fs : List (List Nm)) : Prop := vs.length = fs.length ∧ ∀ (i : Nat) (r : List Nm), fs[i]? = some r → ∃ (ad : Option Addr) (cap : Nat), vs[i]? = some (.slice ad r.length cap) ∧ NumsIn Y ad r
variable (X : Nat → Option Obj)
end Go.Proofs.YtamplgnbbanamaaGreatDoor
end
section
namespace Go.Proofs.YtamplgnbbanamaaGreatDoor
open Go Go.Lg Go.Lg.Fml Go.Lg.Fld Go.Lg.Arith
set_option maxRecDepth 100000
variable (X : Nat → Option Obj)
theorem inssV_one (l : List Ins) : ∀ u ∈ inssV l, u.oneCell' = true := fun u hu => by
  unfold inssV at hu
  rw [List.mem_flatten] at hu
  obtain ⟨q, hq, hu⟩ := hu
  obtain ⟨n, _, rfl⟩ := List.mem_map.1 hq
  unfold insV at hu
  simp only [List.mem_cons, List.not_mem_nil, or_false] at hu
  rcases hu with rfl | rfl | rfl | rfl | rfl | rfl <;> rfl
theorem ins_reads {X : Nat → Option Obj} {ad : Option Addr} {l : List Ins} (h : InsIn X ad l) : ReadsX X ad (inssV l) := reads_rows (by decide) (fun q hq => by obtain ⟨x, _, rfl⟩ := List.mem_map.1 hq; rfl) h.rows
end Go.Proofs.YtamplgnbbanamaaGreatDoor
end
section
namespace Go.Lg
open Go Go.RowKit
theorem joinM_join (X H H2 : Nat → Option Obj) : joinM (joinM X H) H2 = joinM X (joinM H H2) := by
  funext b
  unfold joinM
  cases H2 b <;> rfl
theorem OwnedM.join {C : Ctx} {X H H2 : Nat → Option Obj} (h : OwnedM C X H) (h2 : OwnedM C (joinM X H) H2) : OwnedM C X (joinM H H2) := ⟨fun b o hb => by
  cases hc : H2 b with
  | none => rw [joinM_out hc] at hb; exact h.own b o hb
  | some o' =>
    rw [joinM_in hc] at hb
    cases hb
    obtain ⟨h3, h4, h5⟩ := h2.own b _ hc
    exact ⟨h3, h4, (joinM_none h5).2⟩⟩
theorem joinM_keeps {C : Ctx} {X H H2 : Nat → Option Obj} (h2 : OwnedM C (joinM X H) H2) : ∀ b o, H b = some o → joinM H H2 b = some o := fun b o hb => by
  cases hc : H2 b with
  | none => rw [joinM_out hc]; exact hb
  | some o' =>
    have := (joinM_none (h2.own b o' hc).2.2).1
    rw [this] at hb
    cases hb
section
variable {P : Program} {n : Nat} {C : Ctx} {c : Code} {Q : Exit → St → Prop} {X : Nat → Option Obj}
theorem rel_unslc {S : Nat → Option (Option Box)} {ι : Nat → Nat × Nat} {A B : List CV} {k off len sz : Nat} {x : Box} (hsk : S k = some (some x)) {vs : List Value} (h : CVs.rel S ι (A ++ .slc k off len sz :: B) vs) : ∃ cap : Nat, len ≤ cap ∧ off + cap * sz ≤ (ι k).2 ∧ CVs.rel S ι (A ++ .val (.slice (some ⟨(ι k).1, off, none⟩) len cap) :: B) vs := by
  obtain ⟨va, v, vb, rfl, h1, h2, h3⟩ := rel_mid h
  simp only [CV.rel] at h2
  rw [hsk] at h2
  obtain ⟨cap, rfl, hc, hf⟩ := h2
  exact ⟨cap, hc, hf, CVs.rel_append h1 ⟨rfl, h3⟩⟩
theorem Rel.unslc {ι : Nat → Nat × Nat} {a : Act} {w : World} {s : List (Nat × LV)} {bx : List (Nat × Option Box)} {j k off len sz : Nat} {e : TypeId} {A B : List CV} {row : Bool} {x : Box}
    (hj : Nat.beq j k = false) (hkx : look k bx = some (some x))
    (hr : Rel n C ι ⟨s, (j, some ⟨e, A ++ .slc k off len sz :: B, row⟩) :: bx, X⟩ a w) :
    ∃ cap : Nat, len ≤ cap ∧ off + cap * sz ≤ (ι k).2 ∧ Rel n C ι ⟨s, (j, some ⟨e, A ++ .val (.slice (some ⟨(ι k).1, off, none⟩) len cap) :: B, row⟩) :: bx, X⟩ a w := by
  have hkj : k ≠ j := fun h => by rw [h, Nat.beq_refl] at hj; cases hj
  obtain ⟨arr, fr, g1, g2, g3, g4⟩ := hr.boxes j ⟨e, A ++ .slc k off len sz :: B, row⟩ (by rw [stat_hd, if_pos rfl]) rfl
  have hsk : (⟨s, (j, some ⟨e, A ++ .slc k off len sz :: B, row⟩) :: bx, X⟩ : St).stat k = some (some x) := by rw [stat_hd, if_neg hkj]; exact hkx
  have key : ∃ cap : Nat, len ≤ cap ∧ off + cap * sz ≤ (ι k).2 ∧ Box.rel (⟨s, (j, some ⟨e, A ++ .slc k off len sz :: B, row⟩) :: bx, X⟩ : St).stat ι ⟨e, A ++ .val (.slice (some ⟨(ι k).1, off, none⟩) len cap) :: B, row⟩ arr.toList := by
    unfold Box.rel at g4 ⊢
    cases row with
    | false => exact rel_unslc hsk g4
    | true =>
      obtain ⟨us, sp, e1, h1⟩ := g4
      obtain ⟨cap, hc, hf, h2⟩ := rel_unslc hsk h1
      exact ⟨cap, hc, hf, us, sp, e1, h2⟩
  obtain ⟨cap, hc, hf, g5⟩ := key
  refine ⟨cap, hc, hf, ?_⟩
  generalize hcs : A ++ .slc k off len sz :: B = cs at *
  generalize hcs' : A ++ .val (.slice (some ⟨(ι k).1, off, none⟩) len cap) :: B = cs' at *
  have hlater := later_hd (s := s) (bx := bx) (k := j) ι ⟨e, cs, row⟩ ⟨e, cs', row⟩ X X
  have live : ∀ i b, (⟨s, (j, some ⟨e, cs', row⟩) :: bx, X⟩ : St).stat i = some (some b) → ∃ b0, (⟨s, (j, some ⟨e, cs, row⟩) :: bx, X⟩ : St).stat i = some (some b0) ∧ (i ≠ j → b = b0) := fun i b hi => by
    rw [stat_hd] at hi ⊢
    by_cases e : i = j
    · rw [if_pos e]; exact ⟨_, rfl, fun h => absurd e h⟩
    · rw [if_neg e] at hi ⊢; exact ⟨b, hi, fun _ => rfl⟩
  exact {
    defers := hr.defers, size := hr.size
    slots := fun d lv hd => by
      obtain ⟨v, hv, hvr⟩ := hr.slots d lv hd
      exact ⟨v, hv, LV.rel_later hlater hvr⟩
    boxes := fun i b hi hbk => by
      by_cases ei : i = j
      · subst ei
        rw [stat_hd, if_pos rfl] at hi
        simp only [Option.some.injEq] at hi
        subst hi
        exact ⟨arr, fr, g1, g2, g3, Box.rel_later hlater g5⟩
      · obtain ⟨b0, h0, h1⟩ := live i b hi
        have := h1 ei
        subst this
        obtain ⟨arr, fr, g1, g2, g3, g4⟩ := hr.boxes i b h0 hbk
        exact ⟨arr, fr, g1, g2, g3, Box.rel_later hlater g4⟩
    own := fun i b hi => by obtain ⟨b0, h0, _⟩ := live i b hi; exact hr.own i b0 h0
    inj := fun i i' bi bj hi hj he => by
      obtain ⟨b1, h1, _⟩ := live i bi hi
      obtain ⟨b2, h2, _⟩ := live i' bj hj
      exact hr.inj i i' b1 b2 h1 h2 he
    keep := fun i b hi hge => by obtain ⟨b0, h0, _⟩ := live i b hi; exact hr.keep i b0 h0 hge
    ext := hr.ext
    res := by
      obtain ⟨F, hG⟩ := hr.res
      refine hG.keep (fun i e cs R hi => ?_) (fun _ _ _ _ _ hi => hi) (fun _ _ ho => ho) (fun b _ hx _ _ => hx) (fun i bi hi => ?_)
      · rw [stat_hd] at hi ⊢
        by_cases e : i = j
        · rw [if_pos e] at hi; cases hi
        · rw [if_neg e] at hi ⊢; exact ⟨hi, rfl⟩
      · obtain ⟨b0, h0, _⟩ := live i bi hi
        exact .inl ⟨b0, h0, rfl⟩
    frame := hr.frame, big := hr.big, os := hr.os, tape := hr.tape, output := hr.output }
theorem Rel.fixAlone {ι : Nat → Nat × Nat} {a : Act} {w : World} {s : List (Nat × LV)} {bx : List (Nat × Option Box)} {k : Nat} {e : TypeId} {cs : List CV} {R : Rsc}
    (hs : s.all (fun p => p.2.inUse bx) = true) (hb : bx.all (fun p => match p.2 with | some b => b.cells.all (CV.inUse bx) | none => true) = true) (hk : look k bx = none)
    (hr : Rel n C ι ⟨s, (k, some ⟨e, cs, .res R⟩) :: bx, X⟩ a w) :
    ∃ (H : Nat → Option Obj), R.holds (ι k) H ∧ OwnedM C X H ∧ Rel n C ι ⟨s, bx, joinM X H⟩ a w := by
  have hst : (⟨s, (k, some ⟨e, cs, .res R⟩) :: bx, X⟩ : St).stat k = some (some ⟨e, cs, .res R⟩) := by simp [St.stat, look]
  have hlk : ∀ k' x, look k' bx = some x → k' ≠ k := fun k' x h' e => by rw [e, hk] at h'; cases h'
  have hstb : ∀ k' x, look k' bx = some x → (⟨s, (k, some ⟨e, cs, .res R⟩) :: bx, X⟩ : St).stat k' = some x := fun k' x h' => by
    simp only [St.stat, look]
    cases e : Nat.beq k k' with
    | true => exact absurd (Nat.eq_of_beq_eq_true e).symm (hlk k' x h')
    | false => exact h'
  have hback : ∀ j x, j ≠ k → (⟨s, (k, some ⟨e, cs, .res R⟩) :: bx, X⟩ : St).stat j = some x → look j bx = some x := fun j x hj h' => by
    simp only [St.stat, look] at h'
    cases e : Nat.beq k j with
    | true => exact absurd (Nat.eq_of_beq_eq_true e).symm hj
    | false => rw [e] at h'; exact h'
  obtain ⟨F, hF⟩ := hr.res
  obtain ⟨hR, _⟩ := hF.holds k _ _ _ hst
  refine ⟨F k, hR, ⟨fun b o hb => let h := hF.mem k b o hb; ⟨h.2.2.2.1, h.2.2.1, h.2.2.2.2.1⟩⟩, ?_⟩
  have hon : SameOn bx (⟨s, (k, some ⟨e, cs, .res R⟩) :: bx, X⟩ : St).stat (fun k => look k bx) := fun k' x h' => (hstb k' x h').trans h'.symm
  have hnot : ∀ j b, look j bx = some (some b) → F k (ι j).1 = none := fun j b hj => by
    cases hc : F k (ι j).1 with
    | none => rfl
    | some o => exact absurd ((hF.mem k _ o hc).2.2.2.2.2 j b (hstb j _ hj) rfl) (hlk j _ hj)
  exact {
    defers := hr.defers, size := hr.size
    slots := fun d' lv hd => by
      obtain ⟨v', hv', hr'⟩ := hr.slots d' lv hd
      exact ⟨v', hv', LV.rel_on hon (List.all_eq_true.1 hs _ (look_mem hd)) hr'⟩
    boxes := fun k' b hb' hbk => by
      have hb' : look k' bx = some (some b) := hb'
      obtain ⟨arr', fr', h1, h2, h3, h4⟩ := hr.boxes k' b (hstb k' _ hb') hbk
      exact ⟨arr', fr', h1, h2, h3, Box.rel_on hon (by simpa using List.all_eq_true.1 hb _ (look_mem hb')) h4⟩
    own := fun k' b hb' => by
      have hb' : look k' bx = some (some b) := hb'
      obtain ⟨h1, h2⟩ := hr.own k' b (hstb k' _ hb')
      exact ⟨h1, (joinM_out (hnot k' b hb')).trans h2⟩
    inj := fun k1 k2 b1 b2 h1 h2 he => hr.inj k1 k2 b1 b2 (hstb k1 _ h1) (hstb k2 _ h2) he
    keep := fun k' b hb' hge => hr.keep k' b (hstb k' _ hb') hge
    ext := fun b o hbo => by
      have hbo : joinM X (F k) b = some o := hbo
      cases hc : F k b with
      | none => rw [joinM_out hc] at hbo; exact hr.ext b o hbo
      | some o' =>
        rw [joinM_in hc] at hbo
        cases hbo
        exact (hF.mem k b _ hc).2.1
    res := by
      refine ⟨fun j => open Classical in if j = k then fun _ => none else F j, fun j e' cs' R' hj => ?_, fun j b o ho => ?_, fun i j b h1 h2 => ?_⟩
      · have hj : look j bx = some (some ⟨e', cs', .res R'⟩) := hj
        rw [if_neg (hlk j _ hj)]
        exact hF.holds j e' cs' R' (hstb j _ hj)
      · by_cases ej : j = k
        · rw [if_pos ej] at ho; cases ho
        · rw [if_neg ej] at ho
          obtain ⟨⟨e1, cs1, R1, h1⟩, h2, h3, h4, h5, h6⟩ := hF.mem j b o ho
          refine ⟨⟨e1, cs1, R1, hback j _ ej h1⟩, h2, h3, h4, ?_, fun i bi hi ei => h6 i bi (hstb i _ hi) ei⟩
          have hc : F k b = none := by
            cases hc : F k b with
            | none => rfl
            | some o' => exact absurd (hF.apart j k b (by rw [ho]; simp) (by rw [hc]; simp)) ej
          exact (joinM_out hc).trans h5
      · by_cases ei : i = k
        · rw [if_pos ei] at h1; exact absurd rfl h1
        · by_cases ej : j = k
          · rw [if_pos ej] at h2; exact absurd rfl h2
          · rw [if_neg ei] at h1
            rw [if_neg ej] at h2
            exact hF.apart i j b h1 h2
    frame := hr.frame, big := hr.big, os := hr.os, tape := hr.tape, output := hr.output }
theorem Rel.fixCell {ι : Nat → Nat × Nat} {a : Act} {w : World} {s : List (Nat × LV)} {bx : List (Nat × Option Box)} {j k off len sz : Nat} {e e2 : TypeId} {A B cs : List CV} {row : Bool} {R : Rsc}
    (hs : s.all (fun p => p.2.inUse ((j, none) :: bx)) = true) (hA : A.all (CV.inUse ((j, none) :: bx)) = true) (hB : B.all (CV.inUse ((j, none) :: bx)) = true) (hb : bx.all (fun p => match p.2 with | some b => b.cells.all (CV.inUse ((j, none) :: bx)) | none => true) = true) (hk : look k bx = none) (hjk : Nat.beq j k = false)
    (hr : Rel n C ι ⟨s, (j, some ⟨e2, A ++ .slc k off len sz :: B, row⟩) :: (k, some ⟨e, cs, .res R⟩) :: bx, X⟩ a w) :
    ∃ (ρ : Nat × Nat) (H : Nat → Option Obj) (cap : Nat), R.holds ρ H ∧ OwnedM C X H ∧ len ≤ cap ∧ off + cap * sz ≤ ρ.2 ∧
      Rel n C ι ⟨s, (j, some ⟨e2, A ++ .val (.slice (some ⟨ρ.1, off, none⟩) len cap) :: B, row⟩) :: bx, joinM X H⟩ a w := by
  have hlk : look k ((k, some (⟨e, cs, .res R⟩ : Box)) :: bx) = some (some ⟨e, cs, .res R⟩) := by simp [look]
  obtain ⟨cap, hc, hf, hr2⟩ := hr.unslc hjk hlk
  have hr3 : Rel n C ι ⟨s, (k, some ⟨e, cs, .res R⟩) :: (j, some ⟨e2, A ++ .val (.slice (some ⟨(ι k).1, off, none⟩) len cap) :: B, row⟩) :: bx, X⟩ a w :=
    hr2.same ⟨fun _ => rfl, fun i => look_swap hjk, rfl⟩
  have any : ∀ (y : Option Box) {c : CV}, c.inUse ((j, none) :: bx) = true → c.inUse ((j, y) :: bx) = true := fun y c h => by
    cases c <;> first | rfl | (simp only [CV.inUse, look] at h ⊢; cases hjj : Nat.beq j _ <;> simp_all)
  have anyS : ∀ (y : Option Box) {c : SV}, c.inUse ((j, none) :: bx) = true → c.inUse ((j, y) :: bx) = true := fun y c h => by
    cases c with
    | one c => exact any y h
    | agg l => exact List.all_eq_true.2 fun c hc => any y (List.all_eq_true.1 h c hc)
  have anyL : ∀ (y : Option Box) {c : LV}, c.inUse ((j, none) :: bx) = true → c.inUse ((j, y) :: bx) = true := fun y c h => by
    cases c with
    | sv c => exact anyS y h
    | tup l => exact List.all_eq_true.2 fun c hc => anyS y (List.all_eq_true.1 h c hc)
  obtain ⟨H, hR, hO, hr4⟩ := hr3.fixAlone (List.all_eq_true.2 fun p hp => anyL _ (List.all_eq_true.1 hs p hp)) (by
    rw [List.all_cons, Bool.and_eq_true]
    refine ⟨?_, List.all_eq_true.2 fun p hp => ?_⟩
    · show (A ++ .val _ :: B).all _ = true
      rw [List.all_append, List.all_cons, Bool.and_eq_true, Bool.and_eq_true]
      exact ⟨List.all_eq_true.2 fun c hc => any _ (List.all_eq_true.1 hA c hc), rfl, List.all_eq_true.2 fun c hc => any _ (List.all_eq_true.1 hB c hc)⟩
    · have := List.all_eq_true.1 hb p hp
      cases hp2 : p.2 with
      | none => rfl
      | some b =>
        rw [hp2] at this
        exact List.all_eq_true.2 fun c hc => any _ (List.all_eq_true.1 this c hc)) (by
    simp only [look, hjk]
    exact hk)
  exact ⟨ι k, H, cap, hR, hO, hc, hf, hr4⟩
theorem Leads.fixCell {Mid : St → Prop} {s : List (Nat × LV)} {bx : List (Nat × Option Box)} {j k off len sz : Nat} {e e2 : TypeId} {A B cs : List CV} {row : Bool} {R : Rsc}
    (hs : s.all (fun p => p.2.inUse ((j, none) :: bx)) = true) (hA : A.all (CV.inUse ((j, none) :: bx)) = true) (hB : B.all (CV.inUse ((j, none) :: bx)) = true) (hb : bx.all (fun p => match p.2 with | some b => b.cells.all (CV.inUse ((j, none) :: bx)) | none => true) = true) (hk : look k bx = none) (hjk : Nat.beq j k = false)
    (h : ∀ (ρ : Nat × Nat) (H : Nat → Option Obj) (cap : Nat), R.holds ρ H → OwnedM C X H → len ≤ cap → off + cap * sz ≤ ρ.2 → Leads n C Mid ⟨s, (j, some ⟨e2, A ++ .val (.slice (some ⟨ρ.1, off, none⟩) len cap) :: B, row⟩) :: bx, joinM X H⟩) :
    Leads n C Mid ⟨s, (j, some ⟨e2, A ++ .slc k off len sz :: B, row⟩) :: (k, some ⟨e, cs, .res R⟩) :: bx, X⟩ := ⟨fun ι a w hr => by
  obtain ⟨ρ, H, cap, h1, h2, h3, h4, h5⟩ := hr.fixCell hs hA hB hb hk hjk
  exact (h ρ H cap h1 h2 h3 h4).out ι a w h5⟩
end
end Go.Lg
end
section
namespace Go.Proofs.YtamplgnbbanamaaGreatDoor
open Go Go.Lg Go.Lg.Fml Go.Lg.Fld Go.Lg.Arith
set_option maxRecDepth 100000
abbrev SPg (va vb : Int) (ad : Option Addr) (n cap : Nat) : SV := .agg [.val (.int .i64 va), .val (.int .i64 vb), .val (.slice ad n cap)]
abbrev SRs (r : Rl) (k : Nat) : SV := .agg [.val (.int .i64 r.nw), .val (.int .i64 r.old), .slc k 0 r.ex.length 1]
def int1 (l : List Int) : List Value := l.map fun n => .int .i64 n
def cdR (t : TypeId) (cs : List (List Ins)) : Rsc := ⟨fun ρ H => (∃ (arr : Array Value) (fr : Nat × Nat), H ρ.1 = some (.cells arr t fr) ∧ arr.size = ρ.2) ∧ CodesIn H (some ⟨ρ.1, 0, none⟩) cs⟩
abbrev cdB (k : Nat) (cs : List (List Ins)) : Nat × Option Box := (k, some ⟨0, [], .res (cdR 68 cs)⟩)
abbrev inB (k : Nat) (c : List Ins) : Nat × Option Box := (k, some ⟨66, (inssV c).map .val, true⟩)
section
variable {n : Nat} {C : Ctx} {X : Nat → Option Obj} {s : List (Nat × LV)} {bx : List (Nat × Option Box)} {k : Nat}
theorem cd_shut {Mid : St → Prop} {t : TypeId} {cs : List (List Ins)} {H : Nat → Option Obj} {vs : List Value} (hO : OwnedM C X H) (G : FormsH H vs cs)
    (h : Leads n C Mid ⟨s, (k, some ⟨0, [], .res (cdR t cs)⟩) :: bx, X⟩) : Leads n C Mid ⟨s, (k, some ⟨t, vs.map .val, false⟩) :: bx, joinM X H⟩ := by
  refine Leads.closeRes (vals := vs) hO (fun ρ fr h1 h2 h3 => ?_) h
  refine ⟨⟨_, fr, withBlock_at _ _ _, by rw [h3]; simp⟩, ?_⟩
  exact forms_block (sp := []) (withBlock_at _ _ _) (by simp) (G.mono (withBlock_old h1))
end
theorem InsIn.nil' {X : Nat → Option Obj} {ad : Option Addr} : InsIn X ad [] := ⟨fun i r h => by simp at h, fun x hx => by cases hx⟩
theorem InsIn.no {X : Nat → Option Obj} {c : List Ins} (h : InsIn X none c) : c = [] := by
  cases c with
  | nil => rfl
  | cons x t =>
    obtain ⟨_, _, _, _, _, e, _⟩ := h.at (i := 0) (x := x) rfl
    cases e
def nilV (k : Nat) : List Value := List.replicate k (.slice none 0 0)
theorem nilV_succ (k : Nat) : nilV (k + 1) = .slice none 0 0 :: nilV k := List.replicate_succ
theorem nilV_len (k : Nat) : (nilV k).length = k := List.length_replicate
theorem nilV_splice {vs : List Value} {k i : Nat} {c : CV} (hi : vs.length = i) : splice ((vs ++ nilV (k + 1)).map CV.val) i [c] = vs.map CV.val ++ c :: (nilV k).map CV.val := by
  unfold splice
  rw [nilV_succ]
  simp only [List.map_append, List.append_assoc]
  have hml : (vs.map CV.val).length = i := by rw [List.length_map, hi]
  generalize vs.map CV.val = R at *
  rw [← hml, List.take_left, List.drop_length_add_append]
  simp
theorem rfind_at {l : List Rl} {id : Int} {r : Rl} (h : findP l id = some r) : ∃ i : Nat, l[i]? = some r ∧ (r.nw == id) = true ∧ ∀ (j : Nat) (y : Rl), j < i → l[j]? = some y → (y.nw == id) = false := by
  unfold findP at h
  rw [List.find?_eq_some_iff_getElem] at h
  obtain ⟨h1, i, hi, h2, h3⟩ := h
  refine ⟨i, by rw [List.getElem?_eq_getElem hi, h2], h1, fun j y hj hy => ?_⟩
  obtain ⟨hjl, e⟩ := List.getElem?_eq_some_iff.1 hy
  have := h3 j hj
  rw [e] at this
  simpa using this
theorem fromP_app (a b : List Rl) (old : Int) : fromP (a ++ b) old = fromP a old ++ fromP b old := by
  unfold fromP
  by_cases h : old = 0
  · rw [if_pos h, if_pos h, if_pos h]; rfl
  · rw [if_neg h, if_neg h, if_neg h, List.filter_append, List.map_append]
theorem fromP_yes {r : Rl} {t : List Rl} {old : Int} (h : r.old = old) (h0 : old ≠ 0) : fromP (r :: t) old = r.nw :: fromP t old := by
  unfold fromP
  rw [if_neg h0, if_neg h0, List.filter_cons, if_pos (by rw [h]; exact beq_self_eq_true old), List.map_cons]
theorem fromP_not {r : Rl} {t : List Rl} {old : Int} (h : ¬(r.old = old ∧ old ≠ 0)) : fromP (r :: t) old = fromP t old := by
  unfold fromP
  by_cases h0 : old = 0
  · rw [if_pos h0, if_pos h0]
  · rw [if_neg h0, if_neg h0, List.filter_cons, if_neg]
    intro e
    exact h ⟨by simpa using e, h0⟩
theorem fromP_len (l : List Rl) (old : Int) : (fromP l old).length ≤ l.length := by
  unfold fromP
  by_cases h : old = 0
  · rw [if_pos h]; exact Nat.zero_le _
  · rw [if_neg h, List.length_map]; exact List.length_filter_le _ _
theorem fromP_none (old : Int) : fromP [] old = [] := by unfold fromP; split <;> rfl
variable (X : Nat → Option Obj)
theorem kClone_nil (cap : Nat) : PSpec Tryz.prog X 64 [Lx none 0 cap] (Lx none 0 0) := by
  refine PSpec.intro Tryz.func64 rfl (by kernel_rfl) rfl rfl ?_
  intro C
  (refine LWP.seq <| rgN <| kas rfl <| RunK.nil <| LWP.seq <| LWP.seq <| rgN <| kmv rfl <| K.slcNil (r := true) rfl SliceT.h (.inl ⟨rfl, rfl⟩) .plain ?_; refine RunK.nil <| LWP.condT rfl ?_; refine LWP.seq <| rgN <| kas rfl <| RunK.nil <| LWP.ret ?_)
  exact ⟨[_], ⟨rfl, trivial⟩, rfl⟩
theorem kClone_some (fa : Addr) (cap : Nat) (c : List Ins) (hF : InsIn X (some fa) c) (hb : c.length ≤ 65536) :
    MSpec Tryz.prog X 64 [Lx (some fa) c.length cap] [] (.sv (.one (.slc 1000001 0 c.length 6))) [inB 1000001 c] := by
  have hlen : (inssV c).length = c.length * 6 := by have := inssV_len c; rwa [List.length_map] at this
  refine MSpec.intro Tryz.func64 rfl (by kernel_rfl) rfl rfl (by exact (by repeat' (first | refine all_cons_true ?_ ?_ | rfl | exact bytes_inUse | exact vals_inUse | exact mid_inUse rfl))) rfl rfl ?_
  intro C
  (refine LWP.seq <| rgN <| kas rfl <| RunK.nil <| LWP.seq <| LWP.seq <| rgN <| kmv rfl <| K.slcNil (r := false) rfl SliceT.h (.inl ⟨rfl, rfl⟩) .plain ?_; refine RunK.nil <| LWP.condF rfl ?_; refine LWP.skip ?_; refine LWP.seq <| rgN <| K.buildSlc (zs := []) (sz := 6) (e := 66) (by kernel_rfl) rfl rfl rfl rfl rfl rfl .plain <| kmv rfl <| K.appendX (by_ := 48) (e2 := 66) (news := inssV c) (nl := c.length) (nc := (inssV c).map .val) rfl rfl rfl rfl (ins_reads hF) hlen (inssV_one c) (by kernel_rfl) (by kernel_rfl) (by omega) (by omega) rfl (by omega) rfl .plain ?_; refine kas rfl <| RunK.nil <| LWP.ret ?_)
  exact ⟨[(1000001, 7)], ⟨[_], ⟨rfl, trivial⟩, rfl⟩, (by repeat' (first | exact trivial | refine And.intro ⟨_, rfl, ?_⟩ ?_ | refine And.intro ⟨_, rfl⟩ ?_ | rfl | exact Box.ren_bytes _ _ _ _ | exact Box.ren_vals _ _ _ _ | exact Box.ren_mid rfl)), rfl, rfl⟩
abbrev crSt (nw old : Int) (ead : Option Addr) (n ecap i : Nat) (vs : List Value) (Y : Nat → Option Obj) : St :=
  ⟨[(1, Lp 1), (2, Lp 2), (3, .sv (.one (.slc 9 0 n 1))), (11, Lx ead n ecap), (12, Ln .i64 (n : Nat)), (13, Ln .i64 (i : Nat))], [(9, some ⟨68, (vs ++ nilV (n - i)).map .val, false⟩), v3B 46 1 nw old ead n ecap, v3B 46 2 0 0 none 0 0], Y⟩
set_option maxHeartbeats 6400000 in
theorem kCloneRule (r : Rl) (ead : Option Addr) (ecap : Nat) (hE : CodesIn X ead r.ex) (hn : r.ex.length ≤ 65536) (hc : ∀ c ∈ r.ex, c.length ≤ 65536) :
    MSpec Tryz.prog X 41 [LPg r.nw r.old ead r.ex.length ecap] [] (.sv (SRs r 1000001)) [cdB 1000001 r.ex] := by
  obtain ⟨nw, old, ex⟩ := r
  simp only at hE hn hc ⊢
  have hmk : slcBuild Tryz.prog 44 ex.length = some (nilV ex.length, 1, 68) := slcBuild_one (by kernel_rfl) (by kernel_rfl) (by omega)
  refine MSpec.intro Tryz.func41 rfl (by kernel_rfl) rfl rfl rfl rfl rfl ?_
  intro C
  refine LWP.ends ?_
  (refine LWP.seq <| rgN <| K.box rfl rfl rfl .plain <| K.alloc rfl .plain ?_; refine RunK.nil <| LWP.seq <| rgN <| kfa rfl rfl ?_; refine kl1 rfl rfl rfl <| K.lenX rfl SliceT.h rfl .plain ?_; refine K.makeSlc (m := ex.length) (bytes := 24) rfl rfl hmk (by kernel_rfl) (by omega) rfl rfl .plain <| kas rfl <| RunK.nil <| LWP.seq <| LWP.seq <| rgN <| kfa rfl rfl ?_; refine kl1 rfl rfl rfl <| K.lenX rfl SliceT.h rfl .plain ?_; refine kmv rfl <| RunK.nil <| LWP.block ?_)
  refine LWP.loopL (fun m σ => ∃ (i : Nat) (vs : List Value) (H : Nat → Option Obj), i ≤ ex.length ∧ m = ex.length - i ∧ OwnedM C X H ∧ FormsH H vs (ex.take i) ∧ σ = crSt nw old ead ex.length ecap i vs (joinM X H)) ex.length
    (Leads.le (σ' := crSt nw old ead ex.length ecap 0 [] X) (Le.of (by exact ⟨rfl, rfl, rfl, rfl, rfl, rfl, trivial⟩) (by exact ⟨rfl, rfl, rfl, trivial⟩) (by exact rfl) (by exact rfl) (by repeat' (first | refine all_cons_true ?_ ?_ | rfl | exact bytes_inUse | exact vals_inUse | exact mid_inUse rfl))) (Leads.done ⟨0, [], fun _ => none, by omega, by omega, OwnedM.nil _ _, FormsH.nil, by rw [joinM_nil]⟩)) ?_
  rintro m σ ⟨i, vs, H, hi, rfl, hO, GF, rfl⟩
  have hvl : vs.length = i := by rw [GF.len, List.length_take]; omega
  by_cases hlt : i < ex.length
  case neg =>
    have e : i = ex.length := by omega
    subst e
    rw [List.take_length] at GF
    unfold crSt
    rw [Nat.sub_self, show nilV 0 = [] from rfl, List.append_nil]
    (refine LWP.seq <| rgN <| klt rfl rfl (decide_eq_false (by omega)) <| RunK.nil <| LWP.seq <| LWP.condF rfl ?_; refine LWP.exit <| LWP.seq <| rgN <| kmv rfl <| kfa rfl rfl ?_; refine K.storeOne rfl rfl rfl rfl rfl (nl3 rfl rfl rfl rfl) .plain <| RunK.nil <| LWP.seq <| rgN <| K.loadAll rfl rfl rfl .plain ?_; refine K.storeAll rfl rfl rfl rfl rfl rfl .plain ?_; refine RunK.nil <| LWP.ret ?_)
    refine Leads.le (σ' := ⟨[(2, Lp 2)], [(9, some ⟨68, vs.map .val, false⟩), (2, some ⟨46, [.val (.int .i64 nw), .val (.int .i64 old), .slc 9 0 ex.length 1], false⟩)], joinM X H⟩) (Le.of (by exact ⟨rfl, trivial⟩) (by exact ⟨rfl, rfl, trivial⟩) (by exact rfl) (by exact rfl) (by repeat' (first | refine all_cons_true ?_ ?_ | rfl | exact bytes_inUse | exact vals_inUse | exact mid_inUse rfl))) ?_
    refine cd_shut hO GF (Leads.done ?_)
    exact ⟨[(1000001, 9)], ⟨[_], ⟨⟨_, _, rfl, rfl, rfl, .inl ⟨AggT.h, rfl⟩⟩, trivial⟩, rfl⟩, (by repeat' (first | exact trivial | refine And.intro ⟨_, rfl, ?_⟩ ?_ | refine And.intro ⟨_, rfl⟩ ?_ | rfl | exact Box.ren_bytes _ _ _ _ | exact Box.ren_vals _ _ _ _ | exact Box.ren_mid rfl)), rfl, rfl⟩
  obtain ⟨c, hcc⟩ : ∃ c, ex[i]? = some c := ⟨_, List.getElem?_eq_getElem hlt⟩
  obtain ⟨eb, eo, earr, eel, efr, vad, vcap, rfl, hEX, hec, hI⟩ := hE.get hcc
  have hEJ := joinM_has hO hEX
  have hIJ : InsIn (joinM X H) vad c := hI.mono fun b o h => joinM_has hO h
  have hio : eo + Int.toNat (i : Int) * 1 = eo + i * 1 := by simp
  have hix : 0 + Int.toNat (i : Int) * 1 = i := by rw [Int.toNat_natCast]; omega
  have hadd : IntKind.i64.wrap (((i : Nat) : Int) + 1) = ((i + 1 : Nat) : Int) := by rw [wrap_i64 (by omega)]; omega
  have hroom : i + 1 ≤ ((vs ++ nilV (ex.length - i)).map CV.val).length := by rw [List.length_map, List.length_append, hvl, nilV_len]; omega
  have hk : ex.length - i = (ex.length - (i + 1)) + 1 := by omega
  cases vad with
  | none =>
    have hc0 := hI.no
    subst hc0
    have hq := kClone_nil (joinM X H) vcap
    have hspl : splice ((vs ++ nilV (ex.length - i)).map CV.val) i [.val (.slice none 0 0)] = ((vs ++ [Value.slice none 0 0]) ++ nilV (ex.length - (i + 1))).map CV.val := by
      rw [hk, nilV_splice hvl]; simp
    (refine LWP.seq <| rgN <| klt rfl rfl (decide_eq_true (by omega)) <| RunK.nil <| LWP.seq <| LWP.condT rfl ?_; refine LWP.skip ?_; refine LWP.seq <| LWP.block <| LWP.seq <| rgN <| kmv rfl <| K.indexX rfl rfl SliceT.h (by omega) hio .plain <| K.loadX rfl hEJ rfl hec .plain <| kas rfl <| kas rfl <| RunK.nil <| rgN <| kmv rfl <| kmv rfl <| kmv rfl ?_; refine kca rfl rfl hq <| K.indexSlc rfl rfl (by omega) hix .plain ?_; refine K.store rfl rfl rfl rfl (by kernel_rfl) hroom hspl .plain <| RunK.nil <| rgN <| kad rfl rfl hadd <| kmv rfl <| RunK.nil ?_)
    exact Leads.le (σ' := crSt nw old (some ⟨eb, eo, none⟩) ex.length ecap (i + 1) (vs ++ [.slice none 0 0]) (joinM X H)) (Le.of (by exact ⟨rfl, rfl, rfl, rfl, rfl, rfl, trivial⟩) (by exact ⟨rfl, rfl, rfl, trivial⟩) (by exact rfl) (by exact rfl) (by repeat' (first | refine all_cons_true ?_ ?_ | rfl | exact bytes_inUse | exact vals_inUse | exact mid_inUse rfl))) (Leads.done ⟨ex.length - (i + 1), by omega, i + 1, vs ++ [.slice none 0 0], H, by omega, rfl, hO, by rw [take_snoc hcc]; exact GF.push ⟨none, 0, rfl, InsIn.nil'⟩, rfl⟩)
  | some fa =>
    have hq := kClone_some (joinM X H) fa vcap c hIJ (hc c (List.mem_of_getElem? hcc))
    have hspl : splice ((vs ++ nilV (ex.length - i)).map CV.val) i [.slc 600 0 c.length 6] = vs.map CV.val ++ .slc 600 0 c.length 6 :: (nilV (ex.length - (i + 1))).map CV.val := by
      rw [hk, nilV_splice hvl]
    (refine LWP.seq <| rgN <| klt rfl rfl (decide_eq_true (by omega)) <| RunK.nil <| LWP.seq <| LWP.condT rfl ?_; refine LWP.skip ?_; refine LWP.seq <| LWP.block <| LWP.seq <| rgN <| kmv rfl <| K.indexX rfl rfl SliceT.h (by omega) hio .plain <| K.loadX rfl hEJ rfl hec .plain <| kas rfl <| kas rfl <| RunK.nil <| rgN <| kmv rfl <| kmv rfl <| kmv rfl ?_; refine K.callMp [(1000001, 600)] (.sv (.one (.slc 600 0 c.length 6))) [inB 600 c] (hq) rfl rfl (by exact trivial) rfl rfl rfl rfl rfl (by exact (.box rfl (Box.ren_vals _ _ _ _) .nil)) .plain <| K.indexSlc rfl rfl (by omega) hix .plain ?_; refine K.store rfl rfl rfl rfl (by kernel_rfl) hroom hspl .plain <| RunK.nil <| rgN <| kad rfl rfl hadd <| kmv rfl <| RunK.nil ?_)
    refine Leads.le (σ' := ⟨[(1, Lp 1), (2, Lp 2), (3, .sv (.one (.slc 9 0 ex.length 1))), (11, Lx (some ⟨eb, eo, none⟩) ex.length ecap), (12, Ln .i64 (ex.length : Nat)), (13, Ln .i64 (i + 1 : Nat))], [(9, some ⟨68, vs.map CV.val ++ .slc 600 0 c.length 6 :: (nilV (ex.length - (i + 1))).map CV.val, false⟩), inB 600 c, v3B 46 1 nw old (some ⟨eb, eo, none⟩) ex.length ecap, v3B 46 2 0 0 none 0 0], joinM X H⟩) (Le.of (by exact ⟨rfl, rfl, rfl, rfl, rfl, rfl, trivial⟩) (by exact ⟨rfl, rfl, rfl, rfl, trivial⟩) (by exact rfl) (by exact rfl) (by repeat' (first | refine all_cons_true ?_ ?_ | rfl | exact bytes_inUse | exact vals_inUse | exact mid_inUse rfl))) ?_
    refine Leads.closeCell hO (by have := inssV_len c; rw [List.length_map] at this; exact this) rfl vals_inUse vals_inUse rfl rfl rfl fun b o v q1 _ hO3 hv => Leads.done ⟨ex.length - (i + 1), by omega, i + 1, vs ++ [v], withBlock H b o, by omega, rfl, hO3, ?_, ?_⟩
    · rw [take_snoc hcc]
      exact (GF.mono (withBlock_old q1)).push (ins_leads hv hI.small)
    · unfold crSt
      simp
abbrev Vp' (b : Nat) : LV := .sv (.one (.val (.pointer (some ⟨b, 0, none⟩))))
theorem kFind1 (r : Rl) (ead : Option Addr) (ecap : Nat) (id : Int) {b : Nat} {arr : Array Value} {el : TypeId} {fr : Nat × Nat} (hX : X b = some (.cells arr el fr)) (h0 : arr[0]? = some (.int .i64 id)) :
    PSpec Tryz.prog X 40 [LPg r.nw r.old ead r.ex.length ecap, Vp' b] (Lb (r.nw == id)) := by
  refine PSpec.intro Tryz.func40 rfl (by kernel_rfl) rfl rfl ?_
  intro C
  (refine LWP.seq <| rgN <| K.box rfl rfl rfl .plain <| kas rfl <| RunK.nil <| LWP.seq <| rgN <| kfa rfl rfl ?_; refine kl1 rfl rfl rfl <| K.loadX rfl hX rfl h0 .plain <| keq rfl rfl rfl <| kas rfl <| RunK.nil <| LWP.ret ?_)
  exact ⟨[_], ⟨rfl, trivial⟩, rfl⟩
theorem kIndex (ad : Option Addr) (cap : Nat) (rs : List Rl) (hin : RulesIn X ad rs) (hbig : rs.length < 4611686018427387904) (f : FuncId) (caps : List Value) (p : Rl → Bool)
    (hp : ∀ r ∈ rs, ∀ ead ecap, PSpec Tryz.prog X f ([LPg r.nw r.old ead r.ex.length ecap] ++ caps.map fun v => .sv (.one (.val v))) (Lb (p r))) :
    PSpec Tryz.prog X 39 [Lx ad rs.length cap, Lf f caps] (Ln .i64 (findI p rs)) := by
  refine PSpec.intro Tryz.func39 rfl (by kernel_rfl) rfl rfl ?_
  intro C
  (refine LWP.seq <| rgN <| kas rfl <| RunK.nil <| LWP.seq <| LWP.seq <| rgN <| kmv rfl <| K.lenX rfl SliceT.h rfl .plain ?_; refine kmv rfl <| RunK.nil <| LWP.block ?_)
  refine LWP.loop (fun m σ => ∃ i : Nat, i ≤ rs.length ∧ m = rs.length - i ∧ (∀ (j : Nat) (y : Rl), j < i → rs[j]? = some y → p y = false) ∧ σ = ⟨[(0, Lx ad rs.length cap), (1, Lf f caps), (7, Ln .i64 (rs.length : Nat)), (8, Ln .i64 (i : Nat))], [], X⟩) rs.length
    ⟨_, Le.of (by exact ⟨rfl, rfl, rfl, rfl, trivial⟩) (by exact trivial) (by exact rfl) (by exact rfl) (by exact rfl), 0, by omega, by omega, fun j y hj => absurd hj (by omega), rfl⟩ ?_
  rintro m σ ⟨i, hi, rfl, hpre, rfl⟩
  by_cases hlt : i < rs.length
  · obtain ⟨c, hc⟩ : ∃ c, rs[i]? = some c := ⟨_, List.getElem?_eq_getElem hlt⟩
    obtain ⟨blk, off, arr, el, fr, fad, fcap, rfl, hX, hsz, hcs, _, _, _, hF⟩ := hin.get hc
    have hio : off + Int.toNat (i : Int) * 3 = off + i * 3 := by simp
    have hP := hp c (List.mem_of_getElem? hc) fad fcap
    cases hpc : p c with
    | true =>
      rw [hpc] at hP
      rw [findI_some hpre hc hpc]
      (refine LWP.seq <| rgN <| klt rfl rfl (decide_eq_true (by omega)) <| RunK.nil <| LWP.seq <| LWP.condT rfl ?_; refine LWP.skip ?_; refine LWP.seq <| LWP.block <| LWP.seq <| rgN <| kmv rfl <| kas rfl <| RunK.nil <| LWP.seq <| rgN <| kmv rfl <| kmv rfl <| kmv rfl <| K.indexX rfl rfl SliceT.h (by omega) hio .plain <| K.loadXagg rfl hX (by kernel_rfl) hsz hcs .plain ?_; refine K.callF rfl rfl rfl hP .plain ?_; refine RunK.nil <| LWP.condT rfl ?_; refine LWP.seq <| rgN <| kmv rfl <| kas rfl <| RunK.nil <| LWP.ret ?_)
      exact ⟨[_], ⟨rfl, trivial⟩, rfl⟩
    | false =>
      rw [hpc] at hP
      (refine LWP.seq <| rgN <| klt rfl rfl (decide_eq_true (by omega)) <| RunK.nil <| LWP.seq <| LWP.condT rfl ?_; refine LWP.skip ?_; refine LWP.seq <| LWP.block <| LWP.seq <| rgN <| kmv rfl <| kas rfl <| RunK.nil <| LWP.seq <| rgN <| kmv rfl <| kmv rfl <| kmv rfl <| K.indexX rfl rfl SliceT.h (by omega) hio .plain <| K.loadXagg rfl hX (by kernel_rfl) hsz hcs .plain ?_; refine K.callF rfl rfl rfl hP .plain ?_; refine RunK.nil <| LWP.condF rfl ?_; refine LWP.skip ?_; refine rgN <| kad rfl rfl (wrap_i64 (by omega)) <| kmv rfl <| RunK.nil ?_)
      exact ⟨_, _, by omega, Le.of (by exact ⟨rfl, rfl, rfl, rfl, trivial⟩) (by exact trivial) (by exact rfl) (by exact rfl) (by exact rfl), i + 1, by omega, rfl, (fun j y hj hy => by
        by_cases e : j = i
        · subst e; rw [hc] at hy; cases hy; exact hpc
        · exact hpre j y (by omega) hy), rfl⟩
  · rw [findI_none fun j y hy => hpre j y (by have := (List.getElem?_eq_some_iff.1 hy).1; omega) hy]
    (refine LWP.seq <| rgN <| klt rfl rfl (decide_eq_false (by omega)) <| RunK.nil <| LWP.seq <| LWP.condF rfl ?_; refine LWP.exit <| LWP.seq <| rgN <| kas rfl <| RunK.nil <| LWP.ret ?_)
    exact ⟨[_], ⟨rfl, trivial⟩, rfl⟩
theorem kFind_yes (p : Pg) (ad : Option Addr) (cap : Nat) (hin : RulesIn X ad p.rs) (hbig : p.rs.length < 4611686018427387904) (hs : ∀ r ∈ p.rs, r.ex.length ≤ 65536 ∧ ∀ c ∈ r.ex, c.length ≤ 65536) (id : Int) {r : Rl} (h : findP p.rs id = some r) :
    MSpec Tryz.prog X 18 [LPg p.va p.vb ad p.rs.length cap, Ln .i64 id] [] (.tup [SRs r 1000001, Sb true]) [cdB 1000001 r.ex] := by
  obtain ⟨va, vb, rs⟩ := p
  simp only at hin hbig h hs ⊢
  obtain ⟨i, hr, he, hpre⟩ := rfind_at h
  have hi := (List.getElem?_eq_some_iff.1 hr).1
  refine MSpec.intro Tryz.func18 rfl (by kernel_rfl) rfl rfl rfl rfl rfl ?_
  intro C
  (refine LWP.seq <| rgN <| K.box rfl rfl rfl .plain <| K.box1 rfl rfl rfl .plain <| K.alloc rfl .plain ?_; refine kas rfl <| RunK.nil <| LWP.seq ?_)
  refine LWP.le (σ' := ⟨[(3, Lp 3), (2, Lp 2), (4, Lp 4)], [(3, some ⟨3, [Value.int .i64 id].map .val, false⟩), v3B 24 2 va vb ad rs.length cap, v3B 46 4 0 0 none 0 0], X⟩) (Le.of (by exact ⟨rfl, rfl, rfl, trivial⟩) (by exact ⟨rfl, rfl, rfl, trivial⟩) (by exact rfl) (by exact rfl) (by repeat' (first | refine all_cons_true ?_ ?_ | rfl | exact bytes_inUse | exact vals_inUse | exact mid_inUse rfl))) ?_
  refine LWP.freezePtr (by rfl) (by rfl) (by rfl) fun b arr0 fr0 hn _ h0 => ?_
  have hin' := hin.mono (withBlock_old (o := .cells arr0 3 fr0) hn)
  have hp := fun (r : Rl) (_ : r ∈ rs) (fad : Option Addr) (fcap : Nat) => kFind1 _ r fad fcap id (withBlock_at X b (.cells arr0 3 fr0)) (at_zero h0)
  have hq := kIndex _ ad cap rs hin' hbig 40 [.pointer (some ⟨b, 0, none⟩)] (fun r => r.nw == id) hp
  rw [findI_some hpre hr he] at hq
  obtain ⟨blk, off, arr, el, fr, ead, ecap, rfl, hX, hsiz, hcs, _, _, _, hE⟩ := hin'.get hr
  have hio : off + Int.toNat (i : Int) * 3 = off + i * 3 := by simp
  obtain ⟨s1, s2⟩ := hs r (List.mem_of_getElem? hr)
  have hcl := kCloneRule _ r ead ecap hE s1 s2
  (refine rgN <| kfa rfl rfl ?_; refine kl1 rfl rfl rfl <| K.makeFunc rfl rfl .plain ?_; refine kca rfl rfl hq <| kas rfl <| RunK.nil <| LWP.seq <| LWP.seq <| rgN <| kmv rfl <| klt rfl rfl (decide_eq_false (by omega)) <| RunK.nil <| LWP.condF rfl ?_; refine LWP.skip ?_; refine LWP.seq <| rgN <| kfa rfl rfl ?_; refine kl1 rfl rfl rfl <| kmv rfl <| K.indexX rfl rfl SliceT.h (by omega) hio .plain <| K.loadXagg rfl hX (by kernel_rfl) hsiz hcs .plain <| K.callMp [(1000001, 20)] (.sv (SRs r 20)) [cdB 20 r.ex] (hcl) rfl rfl (by exact trivial) rfl rfl rfl rfl rfl (by exact (.box rfl rfl .nil)) .plain <| K.storeAll rfl rfl rfl rfl rfl rfl .plain ?_; refine kas rfl <| RunK.nil <| LWP.ret ?_)
  exact ⟨[(1000001, 20)], ⟨[_, _], ⟨⟨_, _, rfl, rfl, rfl, .inl ⟨AggT.h, rfl⟩⟩, rfl, trivial⟩, rfl⟩, (by repeat' (first | exact trivial | refine And.intro ⟨_, rfl, ?_⟩ ?_ | refine And.intro ⟨_, rfl⟩ ?_ | rfl | exact Box.ren_bytes _ _ _ _ | exact Box.ren_vals _ _ _ _ | exact Box.ren_mid rfl)), rfl, rfl⟩
abbrev frSt (old : Int) (ad : Option Addr) (n cap i : Nat) (l : List Int) (r : Bool) (Y : Nat → Option Obj) : St :=
  ⟨[(1, Ln .i64 old), (5, .sv (.one (.slc 500 0 l.length 1))), (10, Lx ad n cap), (11, Ln .i64 (n : Nat)), (12, Ln .i64 (i : Nat))], [(500, some ⟨3, (int1 l).map .val, r⟩)], Y⟩
set_option maxHeartbeats 6400000 in
theorem kFrom (p : Pg) (ad : Option Addr) (cap : Nat) (hin : RulesIn X ad p.rs) (hbig : p.rs.length ≤ 65536) (old : Int) :
    MSpec Tryz.prog X 20 [LPg p.va p.vb ad p.rs.length cap, Ln .i64 old] [] (.sv (.one (.slc 1000001 0 (fromP p.rs old).length 1))) [(1000001, some ⟨3, (int1 (fromP p.rs old)).map .val, true⟩)] := by
  obtain ⟨va, vb, rs⟩ := p
  simp only at hin hbig ⊢
  have hrl : ∀ l : List Int, ((int1 l).map CV.val).length = l.length * 1 := fun l => by unfold int1; rw [List.length_map, List.length_map, Nat.mul_one]
  refine MSpec.intro Tryz.func20 rfl (by kernel_rfl) rfl rfl (by exact (by repeat' (first | refine all_cons_true ?_ ?_ | rfl | exact bytes_inUse | exact vals_inUse | exact mid_inUse rfl))) rfl rfl ?_
  intro C
  refine LWP.ends ?_
  (refine LWP.seq <| rgN <| K.box rfl rfl rfl .plain <| kas rfl <| RunK.nil <| LWP.seq <| rgN <| K.buildSlc (zs := []) (sz := 1) (e := 3) (by kernel_rfl) rfl rfl rfl rfl rfl rfl .plain <| kas rfl <| RunK.nil <| LWP.seq <| LWP.seq <| rgN <| kfa rfl rfl ?_; refine kl1 rfl rfl rfl <| K.lenX rfl SliceT.h rfl .plain ?_; refine kmv rfl <| RunK.nil <| LWP.block ?_)
  refine LWP.loop (fun m σ => ∃ (i : Nat) (r : Bool), i ≤ rs.length ∧ m = rs.length - i ∧ σ = frSt old ad rs.length cap i (fromP (rs.take i) old) r X) rs.length
    ⟨frSt old ad rs.length cap 0 [] false X, Le.ofR [(500, 8)] (by exact ⟨rfl, rfl, rfl, rfl, rfl, trivial⟩) (by repeat' (first | exact trivial | refine And.intro ⟨_, rfl, ?_⟩ ?_ | refine And.intro ⟨_, rfl⟩ ?_ | rfl | exact Box.ren_bytes _ _ _ _ | exact Box.ren_vals _ _ _ _ | exact Box.ren_mid rfl)) (by exact rfl) (by exact rfl) (by repeat' (first | refine all_cons_true ?_ ?_ | rfl | exact bytes_inUse | exact vals_inUse | exact mid_inUse rfl)) (by exact rfl) (by exact rfl), 0, false, by omega, by omega, by rw [show fromP (rs.take 0) old = [] from fromP_none old]⟩ ?_
  rintro m σ ⟨i, row, hi, rfl, rfl⟩
  by_cases hlt : i < rs.length
  case neg =>
    have e : i = rs.length := by omega
    subst e
    rw [List.take_length]
    (refine LWP.seq <| rgN <| klt rfl rfl (decide_eq_false (by omega)) <| RunK.nil <| LWP.seq <| LWP.condF rfl ?_; refine LWP.exit <| LWP.seq <| rgN <| kmv rfl <| kas rfl <| RunK.nil <| LWP.ret ?_)
    refine Leads.le (σ' := ⟨[(4, .sv (.one (.slc 500 0 (fromP rs old).length 1)))], [(500, some ⟨3, (int1 (fromP rs old)).map .val, row⟩)], X⟩) (Le.ofR [(500, 500)] (by exact ⟨rfl, trivial⟩) (by repeat' (first | exact trivial | refine And.intro ⟨_, rfl, ?_⟩ ?_ | refine And.intro ⟨_, rfl⟩ ?_ | rfl | exact Box.ren_bytes _ _ _ _ | exact Box.ren_vals _ _ _ _ | exact Box.ren_mid rfl)) (by exact rfl) (by exact rfl) (by repeat' (first | refine all_cons_true ?_ ?_ | rfl | exact bytes_inUse | exact vals_inUse | exact mid_inUse rfl)) (by exact rfl) (by exact rfl)) ?_
    refine Leads.le Le.loose (Leads.done ?_)
    exact ⟨[(1000001, 500)], ⟨[_], ⟨rfl, trivial⟩, rfl⟩, (by repeat' (first | exact trivial | refine And.intro ⟨_, rfl, ?_⟩ ?_ | refine And.intro ⟨_, rfl⟩ ?_ | rfl | exact Box.ren_bytes _ _ _ _ | exact Box.ren_vals _ _ _ _ | exact Box.ren_mid rfl)), rfl, rfl⟩
  obtain ⟨r, hr⟩ : ∃ r, rs[i]? = some r := ⟨_, List.getElem?_eq_getElem hlt⟩
  obtain ⟨blk, off, arr, el, fr, ead, ecap, rfl, hX, hsiz, hcs, _, _, _, hE⟩ := hin.get hr
  have hio : off + Int.toNat (i : Int) * 3 = off + i * 3 := by simp
  have hadd : IntKind.i64.wrap (((i : Nat) : Int) + 1) = ((i + 1 : Nat) : Int) := by rw [wrap_i64 (by omega)]; omega
  have hfl := fromP_len (rs.take i) old
  rw [List.length_take] at hfl
  have hnx : fromP (rs.take (i + 1)) old = fromP (rs.take i) old ++ fromP [r] old := by rw [take_snoc hr, fromP_app]
  by_cases hm : r.old = old ∧ old ≠ 0
  · rw [fromP_yes hm.1 hm.2, fromP_none] at hnx
    generalize fromP (rs.take i) old = l at *
    have hnc : (int1 l).map CV.val ++ [.val (.int .i64 r.nw)] = (int1 (l ++ [r.nw])).map CV.val := by unfold int1; rw [List.map_append, List.map_append]; rfl
    have hnl : l.length + 1 = (l ++ [r.nw]).length := by rw [List.length_append]; rfl
    (refine LWP.seq <| rgN <| klt rfl rfl (decide_eq_true (by omega)) <| RunK.nil <| LWP.seq <| LWP.condT rfl ?_; refine LWP.skip ?_; refine LWP.seq <| LWP.block <| LWP.seq <| rgN <| K.indexX rfl rfl SliceT.h (by omega) hio .plain <| K.loadXagg rfl hX (by kernel_rfl) hsiz hcs .plain <| K.alloc rfl .plain ?_; refine K.storeAll rfl rfl rfl rfl rfl rfl .plain ?_; refine RunK.nil <| LWP.seq <| rgN <| kfa rfl rfl ?_; refine kl1 rfl rfl rfl <| kmv rfl <| keq rfl rfl (beq_iff_eq.2 hm.1) <| kmv rfl <| gmv rfl rfl rfl <| K.neq rfl rfl (bne_iff_ne.2 hm.2) (.taken rfl rfl) ?_; refine kpt rfl rfl <| RunK.nil <| LWP.condT rfl ?_; refine rgN <| kmv rfl <| kfa rfl rfl ?_; refine kl1 rfl rfl rfl <| K.buildSlc (zs := [.int .i64 0]) (sz := 1) (e := 3) (cs' := [.val (.int .i64 r.nw)]) (by kernel_rfl) rfl rfl rfl rfl rfl rfl .plain <| K.appendSlc (by_ := 8) (e2 := 3) (l2 := [.val (.int .i64 r.nw)]) (nl := (l ++ [r.nw]).length) (nc := (int1 (l ++ [r.nw])).map .val) rfl rfl (hrl l) rfl rfl (Nat.le_refl _) rfl rfl (by kernel_rfl) (by kernel_rfl) (by omega) (by omega) rfl hnl hnc .plain <| kas rfl <| RunK.nil <| rgN <| kad rfl rfl hadd <| kmv rfl <| RunK.nil ?_)
    exact ⟨_, frSt old (some ⟨blk, off, none⟩) rs.length cap (i + 1) (l ++ [r.nw]) true X, by omega, Le.ofR [(500, 28)] (by exact ⟨rfl, rfl, rfl, rfl, rfl, trivial⟩) (by repeat' (first | exact trivial | refine And.intro ⟨_, rfl, ?_⟩ ?_ | refine And.intro ⟨_, rfl⟩ ?_ | rfl | exact Box.ren_bytes _ _ _ _ | exact Box.ren_vals _ _ _ _ | exact Box.ren_mid rfl)) (by exact rfl) (by exact rfl) (by repeat' (first | refine all_cons_true ?_ ?_ | rfl | exact bytes_inUse | exact vals_inUse | exact mid_inUse rfl)) (by exact rfl) (by exact rfl), i + 1, true, by omega, rfl, by rw [hnx]⟩
  · rw [fromP_not hm, fromP_none, List.append_nil] at hnx
    have hst : frSt old (some ⟨blk, off, none⟩) rs.length cap (i + 1) (fromP (rs.take i) old) row X = frSt old (some ⟨blk, off, none⟩) rs.length cap (i + 1) (fromP (rs.take (i + 1)) old) row X := by rw [hnx]
    by_cases hme : r.old = old
    · have h0 : old = 0 := by
        by_cases h : old = 0
        · exact h
        · exact absurd ⟨hme, h⟩ hm
      (refine LWP.seq <| rgN <| klt rfl rfl (decide_eq_true (by omega)) <| RunK.nil <| LWP.seq <| LWP.condT rfl ?_; refine LWP.skip ?_; refine LWP.seq <| LWP.block <| LWP.seq <| rgN <| K.indexX rfl rfl SliceT.h (by omega) hio .plain <| K.loadXagg rfl hX (by kernel_rfl) hsiz hcs .plain <| K.alloc rfl .plain ?_; refine K.storeAll rfl rfl rfl rfl rfl rfl .plain ?_; refine RunK.nil <| LWP.seq <| rgN <| kfa rfl rfl ?_; refine kl1 rfl rfl rfl <| kmv rfl <| keq rfl rfl (beq_iff_eq.2 hme) <| kmv rfl <| gmv rfl rfl rfl <| K.neq rfl rfl (bne_eq_false_iff_eq.2 h0) (.taken rfl rfl) ?_; refine kpt rfl rfl <| RunK.nil <| LWP.condF rfl ?_; refine LWP.skip ?_; refine rgN <| kad rfl rfl hadd <| kmv rfl <| RunK.nil ?_)
      exact ⟨_, frSt old (some ⟨blk, off, none⟩) rs.length cap (i + 1) (fromP (rs.take i) old) row X, by omega, Le.ofR [(500, 500)] (by exact ⟨rfl, rfl, rfl, rfl, rfl, trivial⟩) (by repeat' (first | exact trivial | refine And.intro ⟨_, rfl, ?_⟩ ?_ | refine And.intro ⟨_, rfl⟩ ?_ | rfl | exact Box.ren_bytes _ _ _ _ | exact Box.ren_vals _ _ _ _ | exact Box.ren_mid rfl)) (by exact rfl) (by exact rfl) (by repeat' (first | refine all_cons_true ?_ ?_ | rfl | exact bytes_inUse | exact vals_inUse | exact mid_inUse rfl)) (by exact rfl) (by exact rfl), i + 1, row, by omega, rfl, hst⟩
    · (refine LWP.seq <| rgN <| klt rfl rfl (decide_eq_true (by omega)) <| RunK.nil <| LWP.seq <| LWP.condT rfl ?_; refine LWP.skip ?_; refine LWP.seq <| LWP.block <| LWP.seq <| rgN <| K.indexX rfl rfl SliceT.h (by omega) hio .plain <| K.loadXagg rfl hX (by kernel_rfl) hsiz hcs .plain <| K.alloc rfl .plain ?_; refine K.storeAll rfl rfl rfl rfl rfl rfl .plain ?_; refine RunK.nil <| LWP.seq <| rgN <| kfa rfl rfl ?_; refine kl1 rfl rfl rfl <| kmv rfl <| keq rfl rfl (beq_eq_false_iff_ne.2 hme) <| kmv rfl <| RunK.passed rfl rfl rfl <| RunK.passed rfl rfl rfl <| kpf rfl rfl <| RunK.nil <| LWP.condF rfl ?_; refine LWP.skip ?_; refine rgN <| kad rfl rfl hadd <| kmv rfl <| RunK.nil ?_)
      exact ⟨_, frSt old (some ⟨blk, off, none⟩) rs.length cap (i + 1) (fromP (rs.take i) old) row X, by omega, Le.ofR [(500, 500)] (by exact ⟨rfl, rfl, rfl, rfl, rfl, trivial⟩) (by repeat' (first | exact trivial | refine And.intro ⟨_, rfl, ?_⟩ ?_ | refine And.intro ⟨_, rfl⟩ ?_ | rfl | exact Box.ren_bytes _ _ _ _ | exact Box.ren_vals _ _ _ _ | exact Box.ren_mid rfl)) (by exact rfl) (by exact rfl) (by repeat' (first | refine all_cons_true ?_ ?_ | rfl | exact bytes_inUse | exact vals_inUse | exact mid_inUse rfl)) (by exact rfl) (by exact rfl), i + 1, row, by omega, rfl, hst⟩
end Go.Proofs.YtamplgnbbanamaaGreatDoor
end
section
namespace Go.Proofs.YtamplgnbbanamaaGreatDoor
open Go Go.Lg Go.Lg.Fml Go.Lg.Fld Go.Lg.Arith
set_option maxRecDepth 100000
def e4 : List UInt8 × Bool → Nat × List UInt8 × Bool
  | (l, b) => if b = false ∧ 4 ≤ l.length then (le (l.take 4), l.drop 4, false) else (0, l, true)
theorem e4_less (x : List UInt8 × Bool) : Lss x (e4 x).2 := by
  obtain ⟨l, b⟩ := x
  unfold e4
  simp only
  by_cases h : b = false ∧ 4 ≤ l.length
  · rw [if_pos h]; exact ⟨by simp only [List.length_drop]; omega, fun e => (by rw [h.1] at e; cases e)⟩
  · rw [if_neg h]; exact ⟨Nat.le_refl _, fun _ => rfl⟩
theorem e4_lt (x : List UInt8 × Bool) : (e4 x).1 < 4294967296 := by
  obtain ⟨l, b⟩ := x
  unfold e4
  simp only
  split
  · exact le4 l
  · show 0 < 4294967296
    omega
theorem e4_cons (a b c d : UInt8) (r : List UInt8) : e4 (a :: b :: c :: d :: r, false) = (le [a, b, c, d], r, false) := by
  have h : (false = false ∧ 4 ≤ (a :: b :: c :: d :: r).length) := ⟨rfl, by simp⟩
  show (if false = false ∧ 4 ≤ (a :: b :: c :: d :: r).length then (le ((a :: b :: c :: d :: r).take 4), (a :: b :: c :: d :: r).drop 4, false) else (0, a :: b :: c :: d :: r, true)) = _
  rw [if_pos h]
  rfl
theorem eS_good {l l' : List UInt8} {b : Bool} {c : UInt8} (h : eS (l, b) = (c, l', false)) : b = false ∧ l = c :: l' := by
  cases b <;> cases l <;> simp [eS] at h
  exact ⟨rfl, by rw [h.1, h.2]⟩
structure KE (l : List UInt8) (b : Bool) (c : List Ins) (l' : List UInt8) (b' : Bool) : Prop where
  less : l'.length ≤ l.length
  bad : b = true → b' = true
  ok : c.length < 256 ∧ ∀ x ∈ c, smallI x
  get : (b = false ∧ b' = false ∧ getE l = some (c, l')) ∨ ((b = true ∨ getE l = none) ∧ (b' = true ∨ c = []))
structure KEs (l : List UInt8) (b : Bool) (i : Nat) (cs : List (List Ins)) (l' : List UInt8) (b' : Bool) : Prop where
  len : cs.length = i
  less : l'.length ≤ l.length
  bad : b = true → b' = true
  ok : ∀ c ∈ cs, c.length < 256 ∧ ∀ x ∈ c, smallI x
  get : (b = false ∧ b' = false ∧ getEs i l = some (cs, l')) ∨ ((b = true ∨ ∀ k, getEs (i + k) l = none) ∧ (b' = true ∨ [] ∈ cs))
theorem KEs.nil (l : List UInt8) (b : Bool) : KEs l b 0 [] l b := ⟨rfl, Nat.le_refl _, id, fun c h => (by cases h), by
  cases b with
  | false => exact .inl ⟨rfl, rfl, rfl⟩
  | true => exact .inr ⟨.inl rfl, .inl rfl⟩⟩
theorem KEs.step {l l' l2 : List UInt8} {b b' b2 : Bool} {i : Nat} {cs : List (List Ins)} {c : List Ins} (h : KEs l b i cs l' b') (h2 : KE l' b' c l2 b2) : KEs l b (i + 1) (cs ++ [c]) l2 b2 := ⟨by rw [List.length_append, h.len]; rfl, Nat.le_trans h2.less h.less, fun e => h2.bad (h.bad e), fun d hd => by
  rcases List.mem_append.1 hd with hd | hd
  · exact h.ok d hd
  · rw [List.mem_singleton.1 hd]; exact h2.ok, by
  rcases h.get with ⟨g1, g2, g3⟩ | ⟨g1, g2⟩
  · rcases h2.get with ⟨_, f2, f3⟩ | ⟨f1, f2⟩
    · exact .inl ⟨g1, f2, getEs_step g3 f3⟩
    · refine .inr ⟨.inr fun k => ?_, ?_⟩
      · rcases f1 with f1 | f1
        · rw [g2] at f1; cases f1
        · exact getEs_fail g3 (by omega) f1
      · rcases f2 with f2 | f2
        · exact .inl f2
        · exact .inr (by rw [f2]; simp)
  · refine .inr ⟨?_, ?_⟩
    · rcases g1 with g1 | g1
      · exact .inl g1
      · exact .inr fun k => by rw [Nat.add_assoc]; exact g1 _
    · rcases g2 with g2 | g2
      · exact .inl (h2.bad g2)
      · exact .inr (List.mem_append_left _ g2)⟩
def okK (r : Rl) : Prop := (0 ≤ r.nw ∧ r.nw < 256) ∧ (0 ≤ r.old ∧ r.old < 256) ∧ r.ex.length < 256 ∧ ∀ c ∈ r.ex, c.length < 256 ∧ ∀ x ∈ c, smallI x
structure KR (l : List UInt8) (b : Bool) (r : Rl) (l' : List UInt8) (b' : Bool) : Prop where
  less : l'.length ≤ l.length
  bad : b = true → b' = true
  ok : okK r
  get : (b = false ∧ b' = false ∧ getRl l = some (r, l')) ∨ ((b = true ∨ getRl l = none) ∧ (b' = true ∨ [] ∈ r.ex))
theorem KR.mk' {l l1 l2 l3 l' : List UInt8} {b b1 b2 b3 b' : Bool} {c0 c1 c2 : UInt8} {cs : List (List Ins)} (h0 : eS (l, b) = (c0, l1, b1)) (h1 : eS (l1, b1) = (c1, l2, b2)) (h2 : eS (l2, b2) = (c2, l3, b3)) (h : KEs l3 b3 c2.toNat cs l' b') : KR l b ⟨(c0.toNat : Nat), (c1.toNat : Nat), cs⟩ l' b' := by
  have k0 := eS_less (l, b)
  have k1 := eS_less (l1, b1)
  have k2 := eS_less (l2, b2)
  rw [h0] at k0
  rw [h1] at k1
  rw [h2] at k2
  have hc0 := c0.toNat_lt
  have hc1 := c1.toNat_lt
  have hc2 := c2.toNat_lt
  have hl := h.len
  refine ⟨Nat.le_trans h.less (Nat.le_trans k2.1 (Nat.le_trans k1.1 k0.1)), fun e => h.bad (k2.2 (k1.2 (k0.2 e))), ⟨⟨by simp only; omega, by simp only; omega⟩, ⟨by simp only; omega, by simp only; omega⟩, by show cs.length < 256; omega, h.ok⟩, ?_⟩
  cases hb3 : b3 with
  | false =>
    rw [hb3] at h2
    obtain ⟨e2, q2⟩ := eS_good h2
    rw [e2] at h1
    obtain ⟨e1, q1⟩ := eS_good h1
    rw [e1] at h0
    obtain ⟨e0, q0⟩ := eS_good h0
    subst q2 q1 q0
    rcases h.get with ⟨_, g2, g3⟩ | ⟨g1, g2⟩
    · exact .inl ⟨e0, g2, getRl_yes g3⟩
    · refine .inr ⟨.inr ?_, g2⟩
      rcases g1 with g1 | g1
      · rw [hb3] at g1; cases g1
      · exact getRl_no (g1 0)
  | true =>
    rcases h.get with ⟨g1, _⟩ | ⟨_, g2⟩
    · rw [hb3] at g1; cases g1
    refine .inr ⟨?_, g2⟩
    cases hb : b with
    | true => exact .inl rfl
    | false =>
      refine .inr ?_
      subst hb
      match l, h0 with
      | [], _ => rfl
      | [_], h0 =>
        simp only [eS, Prod.mk.injEq] at h0
        rfl
      | [_, _], _ => rfl
      | x :: y :: z :: t, h0 =>
        simp only [eS, Prod.mk.injEq] at h0
        obtain ⟨_, rfl, rfl⟩ := h0
        simp only [eS, Prod.mk.injEq] at h1
        obtain ⟨_, rfl, rfl⟩ := h1
        simp only [eS, Prod.mk.injEq] at h2
        obtain ⟨_, _, h2⟩ := h2
        rw [hb3] at h2
        cases h2
structure KRs (l : List UInt8) (b : Bool) (i : Nat) (rs : List Rl) (l' : List UInt8) (b' : Bool) : Prop where
  len : rs.length = i
  less : l'.length ≤ l.length
  bad : b = true → b' = true
  ok : ∀ r ∈ rs, okK r
  get : (b = false ∧ b' = false ∧ getRls i l = some (rs, l')) ∨ ((b = true ∨ ∀ k, getRls (i + k) l = none) ∧ (b' = true ∨ ∃ r ∈ rs, [] ∈ r.ex))
theorem KRs.nil (l : List UInt8) (b : Bool) : KRs l b 0 [] l b := ⟨rfl, Nat.le_refl _, id, fun c h => (by cases h), by
  cases b with
  | false => exact .inl ⟨rfl, rfl, rfl⟩
  | true => exact .inr ⟨.inl rfl, .inl rfl⟩⟩
theorem KRs.step {l l' l2 : List UInt8} {b b' b2 : Bool} {i : Nat} {rs : List Rl} {r : Rl} (h : KRs l b i rs l' b') (h2 : KR l' b' r l2 b2) : KRs l b (i + 1) (rs ++ [r]) l2 b2 := ⟨by rw [List.length_append, h.len]; rfl, Nat.le_trans h2.less h.less, fun e => h2.bad (h.bad e), fun d hd => by
  rcases List.mem_append.1 hd with hd | hd
  · exact h.ok d hd
  · rw [List.mem_singleton.1 hd]; exact h2.ok, by
  rcases h.get with ⟨g1, g2, g3⟩ | ⟨g1, g2⟩
  · rcases h2.get with ⟨_, f2, f3⟩ | ⟨f1, f2⟩
    · exact .inl ⟨g1, f2, getRls_step g3 f3⟩
    · refine .inr ⟨.inr fun k => ?_, ?_⟩
      · rcases f1 with f1 | f1
        · rw [g2] at f1; cases f1
        · exact getRls_fail g3 (by omega) f1
      · rcases f2 with f2 | f2
        · exact .inl f2
        · exact .inr ⟨r, by simp, f2⟩
  · refine .inr ⟨?_, ?_⟩
    · rcases g1 with g1 | g1
      · exact .inl g1
      · exact .inr fun k => by rw [Nat.add_assoc]; exact g1 _
    · rcases g2 with g2 | ⟨q, hq, g2⟩
      · exact .inl (h2.bad g2)
      · exact .inr ⟨q, List.mem_append_left _ hq, g2⟩⟩
theorem chk_nilE {p : Pg} (h : ∃ r ∈ p.rs, [] ∈ r.ex) : chkP p ≠ 0 := fun h0 => by
  obtain ⟨r, hr, hx⟩ := h
  obtain ⟨last, hl⟩ := chkRs_mem (chkP_zero h0).2.2.1 r hr
  have := firstX_zero (chkR_zero hl).2.2.2.2.2 [] hx
  exact absurd this (by decide)
theorem decP_k {s l1 l2 l3 l4 l' : List UInt8} {b1 b2 b3 b4 b' : Bool} {c m : UInt8} {va vb : Nat} {rs : List Rl} (h1 : eS (s, false) = (c, l1, b1)) (h2 : e4 (l1, b1) = (va, l2, b2)) (h3 : e4 (l2, b2) = (vb, l3, b3)) (h4 : eS (l3, b3) = (m, l4, b4)) (h : KRs l4 b4 m.toNat rs l' b') :
    decP s = if (!b' && (l' == [])) = true ∧ c.toNat = 77 ∧ chkP ⟨(va : Nat), (vb : Nat), rs⟩ = 0 then some ⟨(va : Nat), (vb : Nat), rs⟩ else none := by
  have hbad : (b' = true ∨ ∃ r ∈ rs, [] ∈ r.ex) → ¬((!b' && (l' == [])) = true ∧ c.toNat = 77 ∧ chkP ⟨(va : Nat), (vb : Nat), rs⟩ = 0) := fun h ⟨q1, _, q3⟩ => by
    rcases h with h | h
    · rw [h] at q1; cases q1
    · exact chk_nilE (p := ⟨va, vb, rs⟩) h q3
  by_cases h10 : s.length < 10
  · rw [decP_short h10]
    have hb4 : b4 = true := by
      cases hb : b4 with
      | true => rfl
      | false =>
        exfalso
        rw [hb] at h4
        obtain ⟨e3, q3⟩ := eS_good h4
        have good4 : ∀ {l l' : List UInt8} {b : Bool} {v : Nat}, e4 (l, b) = (v, l', false) → b = false ∧ 4 + l'.length = l.length := fun {l l' b v} h => by
          unfold e4 at h
          simp only at h
          split at h
          · rename_i hc
            simp only [Prod.mk.injEq] at h
            exact ⟨hc.1, by rw [← h.2.1, List.length_drop]; omega⟩
          · simp only [Prod.mk.injEq] at h
            exact absurd h.2.2 (by decide)
        rw [e3] at h3
        obtain ⟨e2, q2⟩ := good4 h3
        rw [e2] at h2
        obtain ⟨e1, q1⟩ := good4 h2
        rw [e1] at h1
        obtain ⟨_, q0⟩ := eS_good h1
        rw [q3, List.length_cons] at q2
        rw [q0, List.length_cons] at h10
        omega
    rcases h.get with ⟨g1, _⟩ | ⟨_, g2⟩
    · rw [hb4] at g1; cases g1
    · rw [if_neg (hbad g2)]
  obtain ⟨c', a0, a1, a2, a3, b0, b1', b2', b3', nb, r, rfl⟩ : ∃ c a0 a1 a2 a3 b0 b1 b2 b3 nb r, s = c :: a0 :: a1 :: a2 :: a3 :: b0 :: b1 :: b2 :: b3 :: nb :: r := by
    match s, h10 with
    | c :: a0 :: a1 :: a2 :: a3 :: b0 :: b1 :: b2 :: b3 :: nb :: r, _ => exact ⟨c, a0, a1, a2, a3, b0, b1, b2, b3, nb, r, rfl⟩
    | [], h => exact absurd (by simp) h
    | [_], h => exact absurd (by simp) h
    | [_, _], h => exact absurd (by simp) h
    | [_, _, _], h => exact absurd (by simp) h
    | [_, _, _, _], h => exact absurd (by simp) h
    | [_, _, _, _, _], h => exact absurd (by simp) h
    | [_, _, _, _, _, _], h => exact absurd (by simp) h
    | [_, _, _, _, _, _, _], h => exact absurd (by simp) h
    | [_, _, _, _, _, _, _, _], h => exact absurd (by simp) h
    | [_, _, _, _, _, _, _, _, _], h => exact absurd (by simp) h
  simp only [eS, Prod.mk.injEq] at h1
  obtain ⟨rfl, rfl, rfl⟩ := h1
  rw [e4_cons] at h2
  simp only [Prod.mk.injEq] at h2
  obtain ⟨rfl, rfl, rfl⟩ := h2
  rw [e4_cons] at h3
  simp only [Prod.mk.injEq] at h3
  obtain ⟨rfl, rfl, rfl⟩ := h3
  simp only [eS, Prod.mk.injEq] at h4
  obtain ⟨rfl, rfl, rfl⟩ := h4
  by_cases hm : c' = 77
  case neg =>
    rw [decP_head hm, if_neg]
    rintro ⟨_, e, _⟩
    exact hm (UInt8.toNat_inj.1 e)
  subst hm
  rw [decP_long]
  rcases h.get with ⟨_, g2, g3⟩ | ⟨g1, g2⟩
  · rw [g3, g2]
    cases l' with
    | nil =>
      simp only
      by_cases hz : chkP ⟨(le [a0, a1, a2, a3] : Nat), (le [b0, b1', b2', b3'] : Nat), rs⟩ = 0
      · rw [if_pos hz, if_pos ⟨rfl, rfl, hz⟩]
      · rw [if_neg hz, if_neg (fun h => hz h.2.2)]
    | cons x t =>
      rw [if_neg]
      rintro ⟨e, _⟩
      cases e
  · rw [if_neg (hbad g2)]
    rcases g1 with g1 | g1
    · cases g1
    · have := g1 0
      rw [Nat.add_zero] at this
      rw [this]
theorem okK_small {r : Rl} (h : okK r) : smallR r := ⟨by have := h.1; omega, by have := h.2.1; omega⟩
theorem okK_size {rs : List Rl} (h : ∀ r ∈ rs, okK r) : sizeR rs := fun r hr => ⟨by have := (h r hr).2.2.1; omega, fun c hc => by have := ((h r hr).2.2.2 c hc).1; omega⟩
variable (X : Nat → Option Obj)
theorem Num4_e (l : List UInt8) (b : Bool) (hl : l.length < 4611686018427387904) : MSpec Tryz.prog X 34 [Lp 1000000, Ln .i64 4] (rd 1000000 l b) (Ln .u64 ((e4 (l, b)).1 : Nat)) (rd 1000000 (e4 (l, b)).2.1 (e4 (l, b)).2.2) := by
  by_cases h : b = false ∧ 4 ≤ l.length
  · obtain ⟨rfl, h4⟩ := h
    rw [show e4 (l, false) = (le (l.take 4), l.drop 4, false) from if_pos ⟨rfl, h4⟩]
    exact Num_ok X l 4 rfl h4 hl
  · rw [show e4 (l, b) = (0, l, true) from if_neg h]
    refine Num_no X l b 4 ?_
    unfold rawOk
    cases b with
    | true => rfl
    | false =>
      rw [decide_eq_false (fun h2 => h ⟨rfl, by have := h2.2; omega⟩)]
      rfl
def lfB (l : List UInt8) (b : Bool) : Nat := if b = true then 0 else l.length
def ePt : List UInt8 × Bool → List UInt8 × List UInt8 × Bool
  | (l, b) => if partOk l b (lfB l b : Nat) = true then ((l.drop 4).take (le (l.take 4)), (l.drop 4).drop (le (l.take 4)), false)
    else if b = false ∧ 4 ≤ l.length then ([], l.drop 4, true) else ([], l, true)
theorem Part_e (l : List UInt8) (b : Bool) (hl : l.length < 4611686018427387904) : MSpec Tryz.prog X 60 [Lp 1000000, Ln .i64 (lfB l b : Nat)] (rd 1000000 l b) (Ls (ePt (l, b)).1) (rd 1000000 (ePt (l, b)).2.1 (ePt (l, b)).2.2) := by
  have hlf : lfB l b ≤ l.length := by unfold lfB; split <;> omega
  by_cases hp : partOk l b (lfB l b : Nat) = true
  · rw [show ePt (l, b) = ((l.drop 4).take (le (l.take 4)), (l.drop 4).drop (le (l.take 4)), false) from if_pos hp]
    cases b with
    | true => cases hp
    | false => exact Part_ok X l (lfB l false : Nat) (by omega) hp hl
  have hp2 : partOk l b (lfB l b : Nat) = false := by
    cases h : partOk l b (lfB l b : Nat) with
    | true => exact absurd h hp
    | false => rfl
  have he : ePt (l, b) = if b = false ∧ 4 ≤ l.length then ([], l.drop 4, true) else ([], l, true) := if_neg hp
  rw [he]
  have wm : IntKind.u64.wrap ((lfB l b : Nat) : Int) = ((lfB l b : Nat) : Int) := by rw [IntKind.wrap_u64]; omega
  by_cases h : b = false ∧ 4 ≤ l.length
  · rw [if_pos h]
    obtain ⟨rfl, h1⟩ := h
    have h4 := le4 l
    have hN := Num_ok X l 4 rfl h1 hl
    have hd : (l.drop 4).length = l.length - 4 := List.length_drop
    have hq : ¬((le (l.take 4) : Int) ≤ (lfB l false : Nat) ∧ le (l.take 4) ≤ l.length - 4) := by
      intro ⟨q1, q2⟩
      unfold partOk at hp2
      rw [decide_eq_true h1, decide_eq_true q1, decide_eq_true q2] at hp2
      cases hp2
    clear hp hp2 he
    generalize lfB l false = most at *
    generalize le (l.take 4) = z at *
    generalize l.drop 4 = t at *
    refine MSpec.intro Tryz.func60 rfl (by kernel_rfl) rfl rfl rfl rfl rfl ?_
    intro C
    by_cases hz : (z : Int) ≤ most
    · have h2 : rawOk t false (z : Nat) = false := by unfold rawOk; rw [decide_eq_false (by omega)]; rfl
      (refine LWP.seq <| rgN <| kas rfl <| RunK.nil <| LWP.seq <| rgN <| kmv rfl <| K.callM [] (rd 1000000 t false) (hN) rfl rfl (by exact (And.intro ⟨_, rfl, rfl⟩ trivial)) (by exact (all_cons_true (all_cons_true rfl (all_cons_true rfl rfl)) rfl)) rfl rfl rfl rfl (by exact (.box rfl rfl .nil)) .plain <| kas rfl <| RunK.nil <| LWP.seq <| LWP.seq <| rgN <| kmv rfl ?_; refine klt rfl rfl (decide_eq_false (by omega)) <| kmv rfl <| gmv rfl rfl rfl <| gmv rfl rfl rfl <| K.conv rfl wm (.taken rfl rfl) ?_; refine K.gtr rfl rfl (decide_eq_false (by omega)) (.taken rfl rfl) ?_; refine kpf rfl rfl <| RunK.nil <| LWP.condF rfl ?_; refine LWP.skip ?_; refine LWP.seq <| rgN <| kmv rfl <| kmv rfl <| kcv rfl (by exact wrap_i64 (by omega)) ?_; refine K.callM [] (rd 1000000 t true) (Raw_no X t false (z : Nat) h2) rfl rfl (by exact (And.intro ⟨_, rfl, rfl⟩ trivial)) (by exact (all_cons_true (all_cons_true rfl (all_cons_true rfl rfl)) rfl)) rfl rfl rfl rfl (by exact (.box rfl rfl .nil)) .plain <| kas rfl <| RunK.nil <| LWP.ret ?_)
      exact ⟨[], ⟨[_], ⟨rfl, trivial⟩, rfl⟩, ⟨⟨_, rfl, rfl⟩, trivial⟩, rfl, rfl⟩
    · (refine LWP.seq <| rgN <| kas rfl <| RunK.nil <| LWP.seq <| rgN <| kmv rfl <| K.callM [] (rd 1000000 t false) (hN) rfl rfl (by exact (And.intro ⟨_, rfl, rfl⟩ trivial)) (by exact (all_cons_true (all_cons_true rfl (all_cons_true rfl rfl)) rfl)) rfl rfl rfl rfl (by exact (.box rfl rfl .nil)) .plain <| kas rfl <| RunK.nil <| LWP.seq <| LWP.seq <| rgN <| kmv rfl ?_; refine klt rfl rfl (decide_eq_false (by omega)) <| kmv rfl <| gmv rfl rfl rfl <| gmv rfl rfl rfl <| K.conv rfl wm (.taken rfl rfl) ?_; refine K.gtr rfl rfl (decide_eq_true (by omega)) (.taken rfl rfl) ?_; refine kpf rfl rfl <| RunK.nil <| LWP.condT rfl ?_; refine LWP.seq <| rgN <| kmv rfl <| K.callM [] (rd 1000000 t true) (spoil_spec X t false) rfl rfl (by exact (And.intro ⟨_, rfl, rfl⟩ trivial)) (by exact (all_cons_true (all_cons_true rfl (all_cons_true rfl rfl)) rfl)) rfl rfl rfl rfl (by exact (.box rfl rfl .nil)) .plain <| RunK.nil <| LWP.seq <| rgN <| kas rfl <| RunK.nil <| LWP.ret ?_)
      exact ⟨[], ⟨[_], ⟨rfl, trivial⟩, rfl⟩, ⟨⟨_, rfl, rfl⟩, trivial⟩, rfl, rfl⟩
  · rw [if_neg h]
    have hb : (isW 4 && rawOk l b 4) = false := by
      unfold rawOk
      cases b with
      | true => rfl
      | false => rw [decide_eq_false (fun h2 => h ⟨rfl, by have := h2.2; omega⟩)]; rfl
    have h1 := Num_no X l b 4 hb
    clear hp hp2 he
    generalize lfB l b = most at *
    refine MSpec.intro Tryz.func60 rfl (by kernel_rfl) rfl rfl rfl rfl rfl ?_
    intro C
    (refine LWP.seq <| rgN <| kas rfl <| RunK.nil <| LWP.seq <| rgN <| kmv rfl <| K.callM [] (rd 1000000 l true) (h1) rfl rfl (by exact (And.intro ⟨_, rfl, rfl⟩ trivial)) (by exact (all_cons_true (all_cons_true rfl (all_cons_true rfl rfl)) rfl)) rfl rfl rfl rfl (by exact (.box rfl rfl .nil)) .plain <| kas rfl <| RunK.nil <| LWP.seq <| LWP.seq <| rgN <| kmv rfl ?_; refine klt rfl rfl (decide_eq_false (by omega)) <| kmv rfl <| gmv rfl rfl rfl <| gmv rfl rfl rfl <| K.conv rfl wm (.taken rfl rfl) ?_; refine K.gtr rfl rfl (decide_eq_false (by omega)) (.taken rfl rfl) ?_; refine kpf rfl rfl <| RunK.nil <| LWP.condF rfl ?_; refine LWP.skip ?_; refine LWP.seq <| rgN <| kmv rfl <| kmv rfl <| kcv rfl (by exact wrap_i64 (by omega)) ?_; refine K.callM [] (rd 1000000 l true) (Raw_no X l true 0 rfl) rfl rfl (by exact (And.intro ⟨_, rfl, rfl⟩ trivial)) (by exact (all_cons_true (all_cons_true rfl (all_cons_true rfl rfl)) rfl)) rfl rfl rfl rfl (by exact (.box rfl rfl .nil)) .plain <| kas rfl <| RunK.nil <| LWP.ret ?_)
    exact ⟨[], ⟨[_], ⟨rfl, trivial⟩, rfl⟩, ⟨⟨_, rfl, rfl⟩, trivial⟩, rfl, rfl⟩
def rqE (x : List UInt8 × Bool) : List Ins × List UInt8 × Bool := (match decX (ePt x).1 with | some c => c | none => [], (ePt x).2)
theorem rqE_some {x : List UInt8 × Bool} {c : List Ins} (h : decX (ePt x).1 = some c) : rqE x = (c, (ePt x).2) := by unfold rqE; rw [h]
theorem rqE_none {x : List UInt8 × Bool} (h : decX (ePt x).1 = none) : rqE x = ([], (ePt x).2) := by unfold rqE; rw [h]
theorem ePt_len (l : List UInt8) (b : Bool) : (ePt (l, b)).1.length ≤ l.length ∧ (ePt (l, b)).2.1.length ≤ l.length := by
  unfold ePt
  simp only
  split
  · simp only [List.length_take, List.length_drop]; omega
  · split
    · simp only [List.length_nil, List.length_drop]; omega
    · simp only [List.length_nil]; omega
theorem rqE_k (l : List UInt8) (b : Bool) : KE l b (rqE (l, b)).1 (rqE (l, b)).2.1 (rqE (l, b)).2.2 := by
  have hlen := (ePt_len l b).2
  by_cases hp : partOk l b (lfB l b : Nat) = true
  · have he : ePt (l, b) = ((l.drop 4).take (le (l.take 4)), (l.drop 4).drop (le (l.take 4)), false) := if_pos hp
    cases b with
    | true => cases hp
    | false =>
      simp only [partOk, Bool.not_false, Bool.true_and, Bool.and_eq_true, decide_eq_true_eq] at hp
      obtain ⟨p1, _, p3⟩ := hp
      have hg := getE_at p1 (by rw [List.length_drop]; exact p3)
      cases hd : decX ((l.drop 4).take (le (l.take 4))) with
      | none =>
        rw [rqE_none (by rw [he]; exact hd)]
        rw [hd] at hg
        rw [he] at hlen ⊢
        exact ⟨hlen, fun e => (by cases e), ⟨(by show (0 : Nat) < 256; decide), fun x hx => (by cases hx)⟩, .inr ⟨.inr hg, .inr rfl⟩⟩
      | some c =>
        rw [rqE_some (by rw [he]; exact hd)]
        rw [hd] at hg
        rw [he] at hlen ⊢
        have hc := (chkX_zero (encX_dec hd).2.2.1).1
        exact ⟨hlen, fun e => (by cases e), ⟨by simp only; omega, small_dec hd⟩, .inl ⟨rfl, rfl, hg⟩⟩
  · have hp2 : partOk l b (lfB l b : Nat) = false := by
      cases h : partOk l b (lfB l b : Nat) with
      | true => exact absurd h hp
      | false => rfl
    have he : ePt (l, b) = if b = false ∧ 4 ≤ l.length then ([], l.drop 4, true) else ([], l, true) := if_neg hp
    have h0 : (ePt (l, b)).1 = [] ∧ (ePt (l, b)).2.2 = true := by rw [he]; split <;> exact ⟨rfl, rfl⟩
    rw [rqE_none (by rw [h0.1]; rfl)]
    simp only
    rw [h0.2]
    refine ⟨hlen, fun _ => rfl, ⟨(by show (0 : Nat) < 256; decide), fun x hx => (by cases hx)⟩, .inr ⟨?_, .inl rfl⟩⟩
    cases b with
    | true => exact .inl rfl
    | false =>
      refine .inr ?_
      have hp2 : partOk l false (l.length : Nat) = false := hp2
      by_cases q1 : 4 ≤ l.length
      · refine getE_long q1 ?_
        rw [List.length_drop]
        by_cases q2 : le (l.take 4) ≤ l.length - 4
        · exfalso
          unfold partOk at hp2
          rw [decide_eq_true q1, decide_eq_true q2, decide_eq_true (show (le (l.take 4) : Int) ≤ (l.length : Nat) by omega)] at hp2
          cases hp2
        · omega
      · exact getE_short (by omega)
def rqEs (x : List UInt8 × Bool) : Nat → List (List Ins) × List UInt8 × Bool
  | 0 => ([], x)
  | n + 1 => ((rqEs x n).1 ++ [(rqE (rqEs x n).2).1], (rqE (rqEs x n).2).2)
theorem rqEs_k (l : List UInt8) (b : Bool) : ∀ n, KEs l b n (rqEs (l, b) n).1 (rqEs (l, b) n).2.1 (rqEs (l, b) n).2.2
  | 0 => KEs.nil l b
  | n + 1 => (rqEs_k l b n).step (rqE_k _ _)
def rqR (x : List UInt8 × Bool) : Rl × List UInt8 × Bool :=
  (⟨((eS x).1.toNat : Nat), ((eS (eS x).2).1.toNat : Nat), (rqEs (eS (eS (eS x).2).2).2 (eS (eS (eS x).2).2).1.toNat).1⟩, (rqEs (eS (eS (eS x).2).2).2 (eS (eS (eS x).2).2).1.toNat).2)
theorem rqR_k (l : List UInt8) (b : Bool) : KR l b (rqR (l, b)).1 (rqR (l, b)).2.1 (rqR (l, b)).2.2 := KR.mk' rfl rfl rfl (rqEs_k _ _ _)
def rqRs (x : List UInt8 × Bool) : Nat → List Rl × List UInt8 × Bool
  | 0 => ([], x)
  | n + 1 => ((rqRs x n).1 ++ [(rqR (rqRs x n).2).1], (rqR (rqRs x n).2).2)
theorem rqRs_k (l : List UInt8) (b : Bool) : ∀ n, KRs l b n (rqRs (l, b) n).1 (rqRs (l, b) n).2.1 (rqRs (l, b) n).2.2
  | 0 => KRs.nil l b
  | n + 1 => (rqRs_k l b n).step (rqR_k _ _)
end Go.Proofs.YtamplgnbbanamaaGreatDoor
end
section
namespace Go.Proofs.YtamplgnbbanamaaGreatDoor
open Go Go.Lg Go.Lg.Fml Go.Lg.Fld Go.Lg.Arith
set_option maxRecDepth 100000
def zerR (k : Nat) : List Value := (List.replicate k [Value.int .i64 0, .int .i64 0, .slice none 0 0]).flatten
theorem zerR_succ (k : Nat) : zerR (k + 1) = [Value.int .i64 0, .int .i64 0, .slice none 0 0] ++ zerR k := by unfold zerR; rw [List.replicate_succ, List.flatten_cons]
theorem zerR_len (k : Nat) : (zerR k).length = k * 3 := by
  induction k with
  | zero => rfl
  | succ k ih => rw [zerR_succ, List.length_append, ih]; simp; omega
section
variable {n : Nat} {C : Ctx} {X : Nat → Option Obj} {s : List (Nat × LV)} {bx : List (Nat × Option Box)} {k : Nat}
theorem rl_shutW {P : Program} {Q : Exit → St → Prop} {c : Code} {t : TypeId} {rs : List Rl} {H : Nat → Option Obj} {ws : List Value} (hO : OwnedM C X H) (G : RulesH H ws rs) (hs : ∀ r ∈ rs, smallR r)
    (h : LWP P n C c Q ⟨s, rlB t k rs :: bx, X⟩) : LWP P n C c Q ⟨s, (k, some ⟨t, (rwZ rs ws).map .val, false⟩) :: bx, joinM X H⟩ := by
  refine LWP.closeRes (vals := rwZ rs ws) hO (fun ρ fr h1 h2 h3 => ?_) h
  refine ⟨⟨_, fr, withBlock_at _ _ _, by rw [h3]; simp⟩, ?_⟩
  exact rules_block (sp := []) (withBlock_at _ _ _) (by simp) (G.mono (withBlock_old h1)) hs
end
variable (X : Nat → Option Obj)
theorem kTake (l : List UInt8) (b : Bool) (hl : l.length < 4611686018427387904) : MSpec Tryz.prog X 33 [Lp 1000000] (rd 1000000 l b) (Ln .i64 ((eS (l, b)).1.toNat : Nat)) (rd 1000000 (eS (l, b)).2.1 (eS (l, b)).2.2) := by
  have h := eNum1 X l b hl
  have hk := (eS (l, b)).1.toNat_lt
  generalize (eS (l, b)).1.toNat = k at *
  generalize (eS (l, b)).2.1 = l2 at *
  generalize (eS (l, b)).2.2 = b2 at *
  refine MSpec.intro Tryz.func33 rfl (by kernel_rfl) rfl rfl rfl rfl rfl ?_
  intro C
  have hw : IntKind.i64.wrap ((k : Nat) : Int) = ((k : Nat) : Int) := wrap_i64 (by omega)
  (refine LWP.seq <| rgN <| kas rfl <| RunK.nil <| LWP.seq <| rgN <| kmv rfl <| K.callM [] (rd 1000000 l2 b2) (h) rfl rfl (by exact (And.intro ⟨_, rfl, rfl⟩ trivial)) (by exact (all_cons_true (all_cons_true rfl (all_cons_true rfl rfl)) rfl)) rfl rfl rfl rfl (by exact (.box rfl rfl .nil)) .plain <| kcv rfl hw ?_; refine kas rfl <| RunK.nil <| LWP.ret ?_)
  exact ⟨[], ⟨[_], ⟨rfl, trivial⟩, rfl⟩, ⟨⟨_, rfl, rfl⟩, trivial⟩, rfl, rfl⟩
abbrev rdB' (k : Nat) (l : List UInt8) (b : Bool) : Nat × Option Box := (k, some ⟨109, [vs l, .val (.bool b)], false⟩)
abbrev trSt (nw old : Int) (l : List UInt8) (b : Bool) (m i : Nat) (cells : List Value) (Y : Nat → Option Obj) : St :=
  ⟨[(0, Lp 1000000), (2, Lp 2), (3, Lp 3), (16, Ln .i64 (m : Nat)), (17, Ln .i64 (i : Nat))], [(12, some ⟨68, cells.map .val, false⟩), rdB' 1000000 l b, (3, some ⟨46, [.val (.int .i64 nw), .val (.int .i64 old), .slc 12 0 m 1], false⟩), v3B 46 2 0 0 none 0 0], Y⟩
set_option maxHeartbeats 6400000 in
theorem kTakeRule (l : List UInt8) (b : Bool) (hl : l.length ≤ 1099511627776) : MSpec Tryz.prog X 35 [Lp 1000000] (rd 1000000 l b) (.sv (SRs (rqR (l, b)).1 1000001)) (rd 1000000 (rqR (l, b)).2.1 (rqR (l, b)).2.2 ++ [cdB 1000001 (rqR (l, b)).1.ex]) := by
  have h1 := kTake X l b (by omega)
  have g1 := (eS_less (l, b)).1
  have k1 := (eS (l, b)).1.toNat_lt
  unfold rqR
  rcases hy1 : eS (l, b) with ⟨c0, l1, b1⟩
  rw [hy1] at h1 g1 k1
  simp only at h1 g1 k1 ⊢
  have h2 := kTake X l1 b1 (by omega)
  have g2 := (eS_less (l1, b1)).1
  have k2 := (eS (l1, b1)).1.toNat_lt
  rcases hy2 : eS (l1, b1) with ⟨c1, l2, b2⟩
  rw [hy2] at h2 g2 k2
  simp only at h2 g2 k2 ⊢
  have h3 := kTake X l2 b2 (by omega)
  have g3 := (eS_less (l2, b2)).1
  have k3 := (eS (l2, b2)).1.toNat_lt
  rcases hy3 : eS (l2, b2) with ⟨c2, l3, b3⟩
  rw [hy3] at h3 g3 k3
  simp only at h3 g3 k3 ⊢
  generalize c2.toNat = m at *
  generalize ((c0.toNat : Nat) : Int) = nw at *
  generalize ((c1.toNat : Nat) : Int) = old at *
  have hmk : slcBuild Tryz.prog 44 m = some (nilV m, 1, 68) := slcBuild_one (by kernel_rfl) (by kernel_rfl) (by omega)
  refine MSpec.intro Tryz.func35 rfl (by kernel_rfl) rfl (by exact (by repeat' (first | refine all_cons_true ?_ ?_ | rfl | exact bytes_inUse | exact vals_inUse | exact mid_inUse rfl))) (by exact (by repeat' (first | refine all_cons_true ?_ ?_ | rfl | exact bytes_inUse | exact vals_inUse | exact mid_inUse rfl))) rfl rfl ?_
  intro C
  refine LWP.ends ?_
  (refine LWP.seq <| rgN <| K.alloc rfl .plain ?_; refine RunK.nil <| LWP.seq <| rgN <| kmv rfl <| K.callM [] (rd 1000000 l1 b1) (h1) rfl rfl (by exact (And.intro ⟨_, rfl, rfl⟩ trivial)) (by exact (all_cons_true (all_cons_true rfl (all_cons_true rfl rfl)) rfl)) rfl rfl rfl rfl (by exact (.box rfl rfl .nil)) .plain <| kmv rfl <| K.callM [] (rd 1000000 l2 b2) (h2) rfl rfl (by exact (And.intro ⟨_, rfl, rfl⟩ trivial)) (by exact (all_cons_true (all_cons_true rfl (all_cons_true rfl rfl)) rfl)) rfl rfl rfl rfl (by exact (.box rfl rfl .nil)) .plain <| K.build rfl rfl (by exact rfl) (by exact nl3 rfl rfl rfl rfl) .plain ?_; refine K.alloc rfl .plain ?_; refine K.storeAll rfl rfl rfl rfl rfl rfl .plain ?_; refine RunK.nil <| LWP.seq <| rgN <| kmv rfl <| K.callM [] (rd 1000000 l3 b3) (h3) rfl rfl (by exact (And.intro ⟨_, rfl, rfl⟩ trivial)) (by exact (all_cons_true (all_cons_true rfl (all_cons_true rfl rfl)) rfl)) rfl rfl rfl rfl (by exact (.box rfl rfl .nil)) .plain <| K.makeSlc (m := m) (bytes := 24) rfl rfl hmk (by kernel_rfl) (by omega) rfl rfl .plain <| kfa rfl rfl ?_; refine K.storeOne rfl rfl rfl rfl rfl (nl3 rfl rfl rfl rfl) .plain <| RunK.nil <| LWP.seq <| LWP.seq <| rgN <| kfa rfl rfl ?_; refine kl1 rfl rfl rfl <| K.lenSlc rfl SliceT.h rfl .plain ?_; refine kmv rfl <| RunK.nil <| LWP.block ?_)
  refine LWP.loopL (fun k σ => ∃ (i : Nat) (cs : List (List Ins)) (l' : List UInt8) (b' : Bool) (vs : List Value) (H : Nat → Option Obj), i ≤ m ∧ k = m - i ∧ rqEs (l3, b3) i = (cs, l', b') ∧ OwnedM C X H ∧ FormsH H vs cs ∧ σ = trSt nw old l' b' m i (vs ++ nilV (m - i)) (joinM X H)) m
    (Leads.le (σ' := trSt nw old l3 b3 m 0 ([] ++ nilV (m - 0)) X) ?_ (Leads.done ⟨0, [], l3, b3, [], fun _ => none, by omega, by omega, rfl, OwnedM.nil _ _, FormsH.nil, by rw [joinM_nil]⟩)) ?_
  · exact Le.of (by exact ⟨rfl, rfl, rfl, rfl, rfl, trivial⟩) (by exact ⟨rfl, rfl, rfl, rfl, trivial⟩) (by exact rfl) (by exact rfl) (by repeat' (first | refine all_cons_true ?_ ?_ | rfl | exact bytes_inUse | exact vals_inUse | exact mid_inUse rfl))
  rintro k σ ⟨i, cs, l', b', vs, H, hi, rfl, hT, hO, GF, rfl⟩
  have hK := rqEs_k l3 b3 i
  rw [hT] at hK
  simp only at hK
  have hcn : cs.length = i := hK.len
  have hl' := hK.less
  have hvl : vs.length = i := by rw [GF.len, hcn]
  by_cases hlt : i < m
  · have hLf := Left_spec (joinM X H) l' b'
    rw [show (if b' = true then (0 : Int) else (l'.length : Nat)) = ((lfB l' b' : Nat) : Int) by unfold lfB; cases b' <;> rfl] at hLf
    have hPt := Part_e (joinM X H) l' b' (by omega)
    have hT2 : rqEs (l3, b3) (i + 1) = (cs ++ [(rqE (l', b')).1], (rqE (l', b')).2) := by simp only [rqEs, hT]
    have hpl := ePt_len l' b'
    have hix : 0 + Int.toNat (i : Int) * 1 = i := by rw [Int.toNat_natCast]; omega
    have hroom : i + 1 ≤ ((vs ++ nilV (m - i)).map CV.val).length := by rw [List.length_map, List.length_append, hvl, nilV_len]; omega
    have hk : m - i = (m - (i + 1)) + 1 := by omega
    have hadd : IntKind.i64.wrap (((i : Nat) : Int) + 1) = ((i + 1 : Nat) : Int) := by rw [wrap_i64 (by omega)]; omega
    cases hd : decX (ePt (l', b')).1 with
    | none =>
      rw [rqE_none hd] at hT2
      have hD := gDecode_no (joinM X H) (ePt (l', b')).1 (by omega) hd
      rcases hy : ePt (l', b') with ⟨s, l4, b4⟩
      rw [hy] at hPt hT2 hD hpl
      simp only at hPt hT2 hD hpl
      have hspl : splice ((vs ++ nilV (m - i)).map CV.val) i [.val (.slice none 0 0)] = ((vs ++ [Value.slice none 0 0]) ++ nilV (m - (i + 1))).map CV.val := by
        rw [hk, nilV_splice hvl]; simp
      (refine LWP.seq <| rgN <| klt rfl rfl (decide_eq_true (by omega)) <| RunK.nil <| LWP.seq <| LWP.condT rfl ?_; refine LWP.skip ?_; refine LWP.seq <| LWP.block <| LWP.seq <| rgN <| kmv rfl <| kas rfl <| RunK.nil <| rgD mixed <| kfa rfl rfl ?_; refine kl1 rfl rfl rfl <| kmv rfl <| kmv rfl <| kmv rfl <| K.callR [(1000000, 1000000)] (hLf) rfl rfl (by exact (And.intro ⟨_, rfl, rfl⟩ trivial)) (by exact (all_cons_true (all_cons_true rfl (all_cons_true rfl rfl)) rfl)) rfl rfl rfl rfl .plain <| K.callM [] (rd 1000000 l4 b4) (hPt) rfl rfl (by exact (And.intro ⟨_, rfl, rfl⟩ trivial)) (by exact (all_cons_true (all_cons_true rfl (all_cons_true rfl rfl)) rfl)) rfl rfl rfl rfl (by exact (.box rfl rfl .nil)) .plain <| kca rfl rfl hD <| kmv rfl <| kex rfl rfl <| kex rfl rfl <| K.indexSlc rfl rfl (by omega) hix .plain ?_; refine K.store rfl rfl rfl rfl (by kernel_rfl) hroom hspl .plain <| RunK.nil <| rgA ?_; refine rgN <| kad rfl rfl hadd <| kmv rfl <| RunK.nil ?_)
      exact Leads.le (σ' := trSt nw old l4 b4 m (i + 1) ((vs ++ [.slice none 0 0]) ++ nilV (m - (i + 1))) (joinM X H)) (Le.of (by exact ⟨rfl, rfl, rfl, rfl, rfl, trivial⟩) (by exact ⟨rfl, rfl, rfl, rfl, trivial⟩) (by exact rfl) (by exact rfl) (by repeat' (first | refine all_cons_true ?_ ?_ | rfl | exact bytes_inUse | exact vals_inUse | exact mid_inUse rfl))) (Leads.done ⟨m - (i + 1), by omega, i + 1, cs ++ [[]], l4, b4, vs ++ [.slice none 0 0], H, by omega, rfl, hT2, hO, GF.push ⟨none, 0, rfl, InsIn.nil'⟩, rfl⟩)
    | some c =>
      rw [rqE_some hd] at hT2
      have hD := gDecode_ok (joinM X H) (ePt (l', b')).1 (by omega) hd
      have hsm := small_dec hd
      rcases hy : ePt (l', b') with ⟨s, l4, b4⟩
      rw [hy] at hPt hT2 hD hpl
      simp only at hPt hT2 hD hpl
      have hspl : splice ((vs ++ nilV (m - i)).map CV.val) i [.slc 600 0 c.length 6] = vs.map CV.val ++ .slc 600 0 c.length 6 :: (nilV (m - (i + 1))).map CV.val := by
        rw [hk, nilV_splice hvl]
      (refine LWP.seq <| rgN <| klt rfl rfl (decide_eq_true (by omega)) <| RunK.nil <| LWP.seq <| LWP.condT rfl ?_; refine LWP.skip ?_; refine LWP.seq <| LWP.block <| LWP.seq <| rgN <| kmv rfl <| kas rfl <| RunK.nil <| rgD mixed <| kfa rfl rfl ?_; refine kl1 rfl rfl rfl <| kmv rfl <| kmv rfl <| kmv rfl <| K.callR [(1000000, 1000000)] (hLf) rfl rfl (by exact (And.intro ⟨_, rfl, rfl⟩ trivial)) (by exact (all_cons_true (all_cons_true rfl (all_cons_true rfl rfl)) rfl)) rfl rfl rfl rfl .plain <| K.callM [] (rd 1000000 l4 b4) (hPt) rfl rfl (by exact (And.intro ⟨_, rfl, rfl⟩ trivial)) (by exact (all_cons_true (all_cons_true rfl (all_cons_true rfl rfl)) rfl)) rfl rfl rfl rfl (by exact (.box rfl rfl .nil)) .plain <| K.callMp [(1000001, 600)] (.tup [.one (.slc 600 0 c.length 6), Sn .i64 0]) [inB 600 c] (hD) rfl rfl (by exact trivial) rfl rfl rfl rfl rfl (by exact (.box rfl (Box.ren_vals _ _ _ _) .nil)) .plain <| kmv rfl <| kex rfl rfl <| kex rfl rfl <| K.indexSlc rfl rfl (by omega) hix .plain ?_; refine K.store rfl rfl rfl rfl (by kernel_rfl) hroom hspl .plain <| RunK.nil <| rgA ?_; refine rgN <| kad rfl rfl hadd <| kmv rfl <| RunK.nil ?_)
      refine Leads.le (σ' := ⟨[(0, Lp 1000000), (2, Lp 2), (3, Lp 3), (16, Ln .i64 (m : Nat)), (17, Ln .i64 (i + 1 : Nat))], [(12, some ⟨68, vs.map CV.val ++ .slc 600 0 c.length 6 :: (nilV (m - (i + 1))).map CV.val, false⟩), inB 600 c, rdB' 1000000 l4 b4, (3, some ⟨46, [.val (.int .i64 nw), .val (.int .i64 old), .slc 12 0 m 1], false⟩), v3B 46 2 0 0 none 0 0], joinM X H⟩) (Le.of (by exact ⟨rfl, rfl, rfl, rfl, rfl, trivial⟩) (by exact ⟨rfl, rfl, rfl, rfl, rfl, trivial⟩) (by exact rfl) (by exact rfl) (by repeat' (first | refine all_cons_true ?_ ?_ | rfl | exact bytes_inUse | exact vals_inUse | exact mid_inUse rfl))) ?_
      refine Leads.closeCell hO (by have := inssV_len c; rw [List.length_map] at this; exact this) rfl vals_inUse vals_inUse rfl rfl rfl fun b o v q1 _ hO3 hv => Leads.done ⟨m - (i + 1), by omega, i + 1, cs ++ [c], l4, b4, vs ++ [v], withBlock H b o, by omega, rfl, hT2, hO3, (GF.mono (withBlock_old q1)).push (ins_leads hv hsm), ?_⟩
      unfold trSt
      simp
  · have e : i = m := by omega
    subst e
    rw [hT]
    simp only
    rw [Nat.sub_self, show nilV 0 = [] from rfl, List.append_nil]
    subst hcn
    (refine LWP.seq <| rgN <| klt rfl rfl (decide_eq_false (by omega)) <| RunK.nil <| LWP.seq <| LWP.condF rfl ?_; refine LWP.exit <| LWP.seq <| rgN <| K.loadAll rfl rfl rfl .plain ?_; refine K.storeAll rfl rfl rfl rfl rfl rfl .plain ?_; refine RunK.nil <| LWP.ret ?_)
    refine Leads.le (σ' := ⟨[(2, Lp 2)], [(12, some ⟨68, vs.map .val, false⟩), rdB' 1000000 l' b', (2, some ⟨46, [.val (.int .i64 nw), .val (.int .i64 old), .slc 12 0 cs.length 1], false⟩)], joinM X H⟩) (Le.of (by exact ⟨rfl, trivial⟩) (by exact ⟨rfl, rfl, rfl, trivial⟩) (by exact rfl) (by exact rfl) (by repeat' (first | refine all_cons_true ?_ ?_ | rfl | exact bytes_inUse | exact vals_inUse | exact mid_inUse rfl))) ?_
    refine cd_shut hO GF (Leads.done ?_)
    exact ⟨[(1000001, 12)], ⟨[_], ⟨⟨_, _, rfl, rfl, rfl, .inl ⟨AggT.h, rfl⟩⟩, trivial⟩, rfl⟩, (by repeat' (first | exact trivial | refine And.intro ⟨_, rfl, ?_⟩ ?_ | refine And.intro ⟨_, rfl⟩ ?_ | rfl | exact Box.ren_bytes _ _ _ _ | exact Box.ren_vals _ _ _ _ | exact Box.ren_mid rfl)), rfl, rfl⟩
end Go.Proofs.YtamplgnbbanamaaGreatDoor
end
section
namespace Go.Proofs.YtamplgnbbanamaaGreatDoor
open Go Go.Lg Go.Lg.Fml Go.Lg.Fld Go.Lg.Arith
set_option maxRecDepth 100000
def kpR (s : List UInt8) : LV := match decP s with
  | none => .tup [.agg [.val (.int .i64 0), .val (.int .i64 0), .val (.slice none 0 0)], Sn .i64 4]
  | some p => .tup [.agg [.val (.int .i64 p.va), .val (.int .i64 p.vb), .slc 1000001 0 p.rs.length 3], Sn .i64 0]
def kpBx (s : List UInt8) : List (Nat × Option Box) := match decP s with
  | none => []
  | some p => [rlB 46 1000001 p.rs]
theorem kp_none {s : List UInt8} (h : decP s = none) : kpR s = .tup [.agg [.val (.int .i64 0), .val (.int .i64 0), .val (.slice none 0 0)], Sn .i64 4] ∧ kpBx s = [] := by unfold kpR kpBx; rw [h]; exact ⟨rfl, rfl⟩
theorem kp_some {s : List UInt8} {p : Pg} (h : decP s = some p) : kpR s = .tup [.agg [.val (.int .i64 p.va), .val (.int .i64 p.vb), .slc 1000001 0 p.rs.length 3], Sn .i64 0] ∧ kpBx s = [rlB 46 1000001 p.rs] := by unfold kpR kpBx; rw [h]; exact ⟨rfl, rfl⟩
theorem kpBx_use (l : List UInt8) : ((kpBx l).all fun p => match p.2 with | some b => b.cells.all (CV.inUse (kpBx l)) | none => true) = true := by
  cases h : decP l with
  | none => rw [(kp_none h).2]; rfl
  | some s => rw [(kp_some h).2]; rfl
theorem kpR_use (l : List UInt8) : LV.inUse (kpBx l) (kpR l) = true := by
  cases h : decP l with
  | none => rw [(kp_none h).1, (kp_none h).2]; rfl
  | some s => rw [(kp_some h).1, (kp_some h).2]; rfl
theorem okK_in {rs : List Rl} (h : ∀ r ∈ rs, okK r) : ∀ r ∈ rs, smallR r := fun r hr => okK_small (h r hr)
variable (X : Nat → Option Obj)
theorem kcheck_lent {S : Nat → Option (Option Box)} {va vb : Int} {k : Nat} {rs : List Rl} {e : TypeId} {cc : List CV} {t : TypeId} {ce : Int} (hbig : rs.length < 4611686018427387904) (hsz : sizeR rs) (hce : chkP ⟨va, vb, rs⟩ = ce) (hk : S k = some (some ⟨e, cc, .res (rlR t rs)⟩)) :
    ∀ (Y : Nat → Option Obj) (us : List Value), (∀ b o, X b = some o → Y b = some o) → LentLs S Y [.sv (.agg [.val (.int .i64 va), .val (.int .i64 vb), .slc k 0 rs.length 3])] us → PSpec Tryz.prog Y 12 (us.map toLV) (Ln .i64 ce) := by
  intro Y us _ hL
  obtain ⟨u1, us1, rfl, ⟨av, rfl, a1, av1, rfl, g1, a2, av2, rfl, g2, a3, av3, rfl, ⟨b, blk, cap2, m, hk', rfl, hc, hfit, hB⟩, rfl⟩, rfl⟩ := hL
  have g1 : a1 = .int .i64 va := g1
  have g2 : a2 = .int .i64 vb := g2
  subst g1 g2
  rw [hk] at hk'
  simp only [Option.some.injEq] at hk'
  subst hk'
  obtain ⟨H, hR, hHY⟩ := hB
  have := kCheck Y ⟨va, vb, rs⟩ (some ⟨blk, 0, none⟩) cap2 (hR.2.mono hHY) hbig hsz
  rw [hce] at this
  exact this
abbrev pdB (k : Nat) (va vb : Int) (j n : Nat) : Nat × Option Box := (k, some ⟨24, [.val (.int .i64 va), .val (.int .i64 vb), .slc j 0 n 3], false⟩)
abbrev dpSt (l : List UInt8) (b : Bool) (first : Nat) (va vb : Int) (m i : Nat) (cells : List Value) (Y : Nat → Option Obj) : St :=
  ⟨[(2, Lp 2), (4, Lp 700), (5, Ln .i64 (first : Nat)), (6, Lp 6), (25, Ln .i64 (m : Nat)), (26, Ln .i64 (i : Nat))], [(21, some ⟨46, cells.map .val, false⟩), rdB' 700 l b, pdB 6 va vb 21 m, v3B 24 2 0 0 none 0 0], Y⟩
set_option maxHeartbeats 12800000 in
theorem kDecodeM (s : List UInt8) (hs : s.length ≤ 1099511627776) : MSpec Tryz.prog X 14 [Ls s] [] (kpR s) (kpBx s) := by
  have h1 := kTake X s false (by omega)
  have g1 := (eS_less (s, false)).1
  have k1 := (eS (s, false)).1.toNat_lt
  rcases hy1 : eS (s, false) with ⟨first, l1, b1⟩
  rw [hy1] at h1 g1 k1
  simp only at h1 g1 k1
  have h2 := Num4_e X l1 b1 (by omega)
  have g2 := (e4_less (l1, b1)).1
  have k2 := e4_lt (l1, b1)
  rcases hy2 : e4 (l1, b1) with ⟨va, l2, b2⟩
  rw [hy2] at h2 g2 k2
  simp only at h2 g2 k2
  have h3 := Num4_e X l2 b2 (by omega)
  have g3 := (e4_less (l2, b2)).1
  have k3 := e4_lt (l2, b2)
  rcases hy3 : e4 (l2, b2) with ⟨vb, l3, b3⟩
  rw [hy3] at h3 g3 k3
  simp only at h3 g3 k3
  have h4 := kTake X l3 b3 (by omega)
  have g4 := (eS_less (l3, b3)).1
  have k4 := (eS (l3, b3)).1.toNat_lt
  rcases hy4 : eS (l3, b3) with ⟨c4, l4, b4⟩
  rw [hy4] at h4 g4 k4
  simp only at h4 g4 k4
  have hS := fun (rs : List Rl) (l' : List UInt8) (b' : Bool) (h : KRs l4 b4 c4.toNat rs l' b') => decP_k hy1 hy2 hy3 hy4 h
  generalize c4.toNat = m at *
  generalize first.toNat = fi at *
  have hmk : slcBuild Tryz.prog 22 m = some (zerR m, 3, 46) := slcBuild_many (z := #[.int .i64 0, .int .i64 0, .slice none 0 0]) (by kernel_rfl) (by kernel_rfl) rfl (by omega)
  have hw2 : IntKind.i64.wrap ((va : Nat) : Int) = ((va : Nat) : Int) := wrap_i64 (by omega)
  have hw3 : IntKind.i64.wrap ((vb : Nat) : Int) = ((vb : Nat) : Int) := wrap_i64 (by omega)
  have hR := Read_spec X s
  refine MSpec.intro Tryz.func14 rfl (by kernel_rfl) rfl (kpR_use s) (kpBx_use s) rfl rfl ?_
  intro C
  (refine LWP.seq <| rgN <| K.alloc rfl .plain ?_; refine kas rfl <| RunK.nil <| LWP.seq <| rgN <| kmv rfl <| K.callMp [(1000001, 700)] (Lp 700) (rd 700 s false) (hR) rfl rfl (by exact trivial) rfl rfl rfl rfl rfl (by exact (.box rfl rfl .nil)) .plain <| kas rfl <| RunK.nil <| LWP.seq <| rgN <| kmv rfl <| K.callM [(1000000, 700)] (rd 700 l1 b1) (h1) rfl rfl (by exact (And.intro ⟨_, rfl, rfl⟩ trivial)) (by exact (all_cons_true (all_cons_true rfl (all_cons_true rfl rfl)) rfl)) rfl rfl rfl rfl (by exact (.box rfl rfl .nil)) .plain <| kas rfl <| RunK.nil ?_; refine LWP.seq <| rgN <| kmv rfl <| K.callM [(1000000, 700)] (rd 700 l2 b2) (h2) rfl rfl (by exact (And.intro ⟨_, rfl, rfl⟩ trivial)) (by exact (all_cons_true (all_cons_true rfl (all_cons_true rfl rfl)) rfl)) rfl rfl rfl rfl (by exact (.box rfl rfl .nil)) .plain <| kcv rfl hw2 ?_; refine kmv rfl <| K.callM [(1000000, 700)] (rd 700 l3 b3) (h3) rfl rfl (by exact (And.intro ⟨_, rfl, rfl⟩ trivial)) (by exact (all_cons_true (all_cons_true rfl (all_cons_true rfl rfl)) rfl)) rfl rfl rfl rfl (by exact (.box rfl rfl .nil)) .plain <| kcv rfl hw3 ?_; refine K.build rfl rfl (by exact rfl) (by exact nl3 rfl rfl rfl rfl) .plain ?_; refine K.alloc rfl .plain ?_; refine K.storeAll rfl rfl rfl rfl rfl rfl .plain ?_; refine RunK.nil <| LWP.seq <| rgN <| kmv rfl <| K.callM [(1000000, 700)] (rd 700 l4 b4) (h4) rfl rfl (by exact (And.intro ⟨_, rfl, rfl⟩ trivial)) (by exact (all_cons_true (all_cons_true rfl (all_cons_true rfl rfl)) rfl)) rfl rfl rfl rfl (by exact (.box rfl rfl .nil)) .plain <| K.makeSlc (m := m) (bytes := 40) rfl rfl hmk (by kernel_rfl) (by omega) rfl rfl .plain <| kfa rfl rfl ?_; refine K.storeOne rfl rfl rfl rfl rfl (nl3 rfl rfl rfl rfl) .plain <| RunK.nil <| LWP.seq <| LWP.seq <| rgN <| kfa rfl rfl ?_; refine kl1 rfl rfl rfl <| K.lenSlc rfl SliceT.h rfl .plain ?_; refine kmv rfl <| RunK.nil <| LWP.block ?_)
  refine LWP.loopL (fun k σ => ∃ (i : Nat) (rs : List Rl) (l' : List UInt8) (b' : Bool) (ws : List Value) (H : Nat → Option Obj), i ≤ m ∧ k = m - i ∧ rqRs (l4, b4) i = (rs, l', b') ∧ OwnedM C X H ∧ RulesH H ws rs ∧ σ = dpSt l' b' fi (va : Nat) (vb : Nat) m i (rwZ rs ws ++ zerR (m - i)) (joinM X H)) m
    (Leads.le (σ' := dpSt l4 b4 fi (va : Nat) (vb : Nat) m 0 (rwZ [] [] ++ zerR (m - 0)) X) ?_ (Leads.done ⟨0, [], l4, b4, [], fun _ => none, by omega, by omega, rfl, OwnedM.nil _ _, RulesH.nil, by rw [joinM_nil]⟩)) ?_
  · exact Le.of (by exact ⟨rfl, rfl, rfl, rfl, rfl, rfl, trivial⟩) (by exact ⟨rfl, rfl, rfl, rfl, trivial⟩) (by exact rfl) (by exact rfl) (by repeat' (first | refine all_cons_true ?_ ?_ | rfl | exact bytes_inUse | exact vals_inUse | exact mid_inUse rfl))
  rintro k σ ⟨i, rs, l', b', ws, H, hi, rfl, hT, hO, GR, rfl⟩
  have hK := rqRs_k l4 b4 i
  rw [hT] at hK
  simp only at hK
  have hcn : rs.length = i := hK.len
  have hl' := hK.less
  by_cases hlt : i < m
  · have hF := kTakeRule (joinM X H) l' b' (by omega)
    have hT2 : rqRs (l4, b4) (i + 1) = (rs ++ [(rqR (l', b')).1], (rqR (l', b')).2) := by simp only [rqRs, hT]
    rcases hy : rqR (l', b') with ⟨r, l5, b5⟩
    rw [hy] at hF hT2
    simp only at hF hT2
    have hix : 0 + Int.toNat (i : Int) * 3 = i * 3 := by rw [Int.toNat_natCast]; omega
    have hpl : (rwZ rs ws).length = i * 3 := by rw [rwZ_len GR.len, hcn]
    have hroom : i * 3 + 3 ≤ ((rwZ rs ws ++ zerR (m - i)).map CV.val).length := by rw [List.length_map, List.length_append, hpl, zerR_len]; omega
    have hspl : splice ((rwZ rs ws ++ zerR (m - i)).map CV.val) (i * 3) [.val (.int .i64 r.nw), .val (.int .i64 r.old), .slc 30 0 r.ex.length 1] = (rwZ rs ws ++ [Value.int .i64 r.nw, Value.int .i64 r.old]).map CV.val ++ .slc 30 0 r.ex.length 1 :: (zerR (m - (i + 1))).map .val := by
      unfold splice
      rw [show m - i = (m - (i + 1)) + 1 by omega, zerR_succ]
      simp only [List.map_append, List.append_assoc]
      have hml : ((rwZ rs ws).map CV.val).length = i * 3 := by rw [List.length_map, hpl]
      generalize (rwZ rs ws).map CV.val = R at *
      rw [← hml, List.take_left, List.drop_length_add_append]
      simp
    have hadd : IntKind.i64.wrap (((i : Nat) : Int) + 1) = ((i + 1 : Nat) : Int) := by rw [wrap_i64 (by omega)]; omega
    (refine LWP.seq <| rgN <| klt rfl rfl (decide_eq_true (by omega)) <| RunK.nil <| LWP.seq <| LWP.condT rfl ?_; refine LWP.skip ?_; refine LWP.seq <| LWP.block <| LWP.seq <| rgN <| kmv rfl <| kas rfl <| RunK.nil <| rgD mixed <| kfa rfl rfl ?_; refine kl1 rfl rfl rfl <| kmv rfl <| kmv rfl <| K.callMp [(1000000, 700), (1000001, 30)] (.sv (SRs r 30)) (rd 700 l5 b5 ++ [cdB 30 r.ex]) (hF) rfl rfl (by exact (And.intro ⟨_, rfl, rfl⟩ trivial)) (by exact (all_cons_true (all_cons_true rfl (all_cons_true rfl rfl)) rfl)) rfl rfl rfl rfl (by exact (.box rfl rfl (.box rfl rfl .nil))) .plain <| K.indexSlc rfl rfl (by omega) hix .plain ?_; refine K.store rfl rfl rfl rfl (by kernel_rfl) hroom hspl .plain <| RunK.nil <| rgA ?_; refine rgN <| kad rfl rfl hadd <| kmv rfl <| RunK.nil ?_)
    refine Leads.le (σ' := ⟨[(2, Lp 2), (4, Lp 700), (5, Ln .i64 (fi : Nat)), (6, Lp 6), (25, Ln .i64 (m : Nat)), (26, Ln .i64 (i + 1 : Nat))], [(21, some ⟨46, (rwZ rs ws ++ [Value.int .i64 r.nw, Value.int .i64 r.old]).map CV.val ++ .slc 30 0 r.ex.length 1 :: (zerR (m - (i + 1))).map .val, false⟩), cdB 30 r.ex, rdB' 700 l5 b5, pdB 6 (va : Nat) (vb : Nat) 21 m, v3B 24 2 0 0 none 0 0], joinM X H⟩) (Le.of (by exact ⟨rfl, rfl, rfl, rfl, rfl, rfl, trivial⟩) (by exact ⟨rfl, rfl, rfl, rfl, rfl, trivial⟩) (by exact rfl) (by exact rfl) (by repeat' (first | refine all_cons_true ?_ ?_ | rfl | exact bytes_inUse | exact vals_inUse | exact mid_inUse rfl))) ?_
    refine Leads.fixCell rfl vals_inUse vals_inUse rfl rfl rfl fun ρ H2 cap2 hR2 hO2 _ _ => ?_
    rw [joinM_join]
    refine Leads.done ⟨m - (i + 1), by omega, i + 1, rs ++ [r], l5, b5, ws ++ [.slice (some ⟨ρ.1, 0, none⟩) r.ex.length cap2], joinM H H2, by omega, rfl, hT2, hO.join hO2, (GR.mono (joinM_keeps hO2)).push ⟨_, _, rfl, hR2.2.mono fun b o h => joinM_in h⟩, ?_⟩
    rw [rwZ_add GR.len]
    unfold dpSt
    simp
  · have e : i = m := by omega
    subst e
    have hS := hS rs l' b' hK
    rw [Nat.sub_self, show zerR 0 = [] from rfl, List.append_nil]
    rw [← hcn] at *
    have hsm := okK_in hK.ok
    have hsz := okK_size hK.ok
    (refine LWP.seq <| rgN <| klt rfl rfl (decide_eq_false (by omega)) <| RunK.nil <| LWP.seq <| LWP.condF rfl ?_; refine LWP.exit <| LWP.seq <| LWP.seq ?_)
    refine LWP.le (σ' := ⟨[(2, Lp 2), (4, Lp 700), (5, Ln .i64 (fi : Nat)), (6, Lp 6)], [(21, some ⟨46, (rwZ rs ws).map .val, false⟩), rdB' 700 l' b', pdB 6 (va : Nat) (vb : Nat) 21 rs.length, v3B 24 2 0 0 none 0 0], joinM X H⟩) (Le.of (by exact ⟨rfl, rfl, rfl, rfl, trivial⟩) (by exact ⟨rfl, rfl, rfl, rfl, trivial⟩) (by exact rfl) (by exact rfl) (by repeat' (first | refine all_cons_true ?_ ?_ | rfl | exact bytes_inUse | exact vals_inUse | exact mid_inUse rfl))) ?_
    refine rl_shutW hO GR hsm ?_
    have hD := Done_spec X l' b' _ rfl
    by_cases hd : (!b' && (l' == [])) = true
    case neg =>
      rw [if_neg fun h => hd h.1] at hS
      obtain ⟨q1, q2⟩ := kp_none hS
      rw [q1, q2]
      rw [Bool.not_eq_true] at hd
      rw [hd] at hD
      (refine rgN <| kmv rfl <| K.callM [(1000000, 700)] (rd 700 l' b') (hD) rfl rfl (by exact (And.intro ⟨_, rfl, rfl⟩ trivial)) (by exact (all_cons_true (all_cons_true rfl (all_cons_true rfl rfl)) rfl)) rfl rfl rfl rfl (by exact (.box rfl rfl .nil)) .plain <| K.not rfl rfl .plain <| kmv rfl <| RunK.passed rfl rfl rfl <| RunK.passed rfl rfl rfl <| kpt rfl rfl <| kmv rfl <| RunK.passed rfl rfl rfl <| RunK.passed rfl rfl rfl <| RunK.passed rfl rfl rfl <| kpt rfl rfl <| RunK.nil ?_; refine LWP.condT rfl ?_; refine LWP.seq <| rgN <| K.build rfl rfl (by exact rfl) (by exact nl3 rfl rfl rfl rfl) .plain ?_; refine K.storeAll rfl rfl rfl rfl rfl rfl .plain ?_; refine kas rfl <| RunK.nil <| LWP.ret ?_)
      exact ⟨[], ⟨[_, _], ⟨⟨_, _, rfl, rfl, rfl, .inl ⟨AggT.h, rfl⟩⟩, rfl, trivial⟩, rfl⟩, (by repeat' (first | exact trivial | refine And.intro ⟨_, rfl, ?_⟩ ?_ | refine And.intro ⟨_, rfl⟩ ?_ | rfl | exact Box.ren_bytes _ _ _ _ | exact Box.ren_vals _ _ _ _ | exact Box.ren_mid rfl)), rfl, rfl⟩
    rw [hd] at hD
    by_cases hm : fi = 77
    case neg =>
      rw [if_neg fun h => hm h.2.1] at hS
      obtain ⟨q1, q2⟩ := kp_none hS
      rw [q1, q2]
      have hne : (((fi : Nat) : Int) != 77) = true := by rw [bne_iff_ne]; omega
      (refine rgN <| kmv rfl <| K.callM [(1000000, 700)] (rd 700 l' b') (hD) rfl rfl (by exact (And.intro ⟨_, rfl, rfl⟩ trivial)) (by exact (all_cons_true (all_cons_true rfl (all_cons_true rfl rfl)) rfl)) rfl rfl rfl rfl (by exact (.box rfl rfl .nil)) .plain <| K.not rfl rfl .plain <| kmv rfl <| gmv rfl rfl rfl <| K.neq rfl rfl hne (.taken rfl rfl) ?_; refine kpf rfl rfl <| kmv rfl <| RunK.passed rfl rfl rfl <| RunK.passed rfl rfl rfl <| RunK.passed rfl rfl rfl <| kpt rfl rfl <| RunK.nil <| LWP.condT rfl ?_; refine LWP.seq <| rgN <| K.build rfl rfl (by exact rfl) (by exact nl3 rfl rfl rfl rfl) .plain ?_; refine K.storeAll rfl rfl rfl rfl rfl rfl .plain ?_; refine kas rfl <| RunK.nil <| LWP.ret ?_)
      exact ⟨[], ⟨[_, _], ⟨⟨_, _, rfl, rfl, rfl, .inl ⟨AggT.h, rfl⟩⟩, rfl, trivial⟩, rfl⟩, (by repeat' (first | exact trivial | refine And.intro ⟨_, rfl, ?_⟩ ?_ | refine And.intro ⟨_, rfl⟩ ?_ | rfl | exact Box.ren_bytes _ _ _ _ | exact Box.ren_vals _ _ _ _ | exact Box.ren_mid rfl)), rfl, rfl⟩
    have hne : (((fi : Nat) : Int) != 77) = false := by rw [bne_eq_false_iff_eq]; omega
    by_cases hz : chkP ⟨(va : Nat), (vb : Nat), rs⟩ = 0
    · rw [if_pos ⟨hd, hm, hz⟩] at hS
      obtain ⟨q1, q2⟩ := kp_some hS
      rw [q1, q2]
      have hc := fun (S : Nat → Option (Option Box)) (hk : S 21 = some (some ⟨0, [], .res (rlR 46 rs)⟩)) => kcheck_lent X (S := S) (k := 21) (va := (va : Nat)) (vb := (vb : Nat)) (by omega) hsz hz hk
      (refine rgN <| kmv rfl <| K.callM [(1000000, 700)] (rd 700 l' b') (hD) rfl rfl (by exact (And.intro ⟨_, rfl, rfl⟩ trivial)) (by exact (all_cons_true (all_cons_true rfl (all_cons_true rfl rfl)) rfl)) rfl rfl rfl rfl (by exact (.box rfl rfl .nil)) .plain <| K.not rfl rfl .plain <| kmv rfl <| gmv rfl rfl rfl <| K.neq rfl rfl hne (.taken rfl rfl) ?_; refine kpf rfl rfl <| kmv rfl <| K.loadAll rfl rfl rfl (.taken rfl rfl) ?_; refine K.callL [21] rfl rfl rfl (hc _ rfl) (.taken rfl rfl) ?_; refine K.neq rfl rfl (r := false) (by decide) (.taken rfl rfl) ?_; refine kpf rfl rfl <| RunK.nil <| LWP.condF rfl ?_; refine LWP.skip ?_; refine LWP.seq <| rgN <| K.loadAll rfl rfl rfl .plain ?_; refine K.storeAll rfl rfl rfl rfl rfl rfl .plain ?_; refine kas rfl <| RunK.nil <| LWP.ret ?_)
      exact ⟨[(1000001, 21)], ⟨[_, _], ⟨⟨_, _, rfl, rfl, rfl, .inl ⟨AggT.h, rfl⟩⟩, rfl, trivial⟩, rfl⟩, (by repeat' (first | exact trivial | refine And.intro ⟨_, rfl, ?_⟩ ?_ | refine And.intro ⟨_, rfl⟩ ?_ | rfl | exact Box.ren_bytes _ _ _ _ | exact Box.ren_vals _ _ _ _ | exact Box.ren_mid rfl)), rfl, rfl⟩
    · rw [if_neg fun h => hz h.2.2] at hS
      obtain ⟨q1, q2⟩ := kp_none hS
      rw [q1, q2]
      have hne2 : (chkP ⟨(va : Nat), (vb : Nat), rs⟩ != 0) = true := by rw [bne_iff_ne]; exact hz
      have hc := fun (S : Nat → Option (Option Box)) (hk : S 21 = some (some ⟨0, [], .res (rlR 46 rs)⟩)) => kcheck_lent X (S := S) (k := 21) (va := (va : Nat)) (vb := (vb : Nat)) (by omega) hsz rfl hk
      generalize chkP ⟨(va : Nat), (vb : Nat), rs⟩ = ce at *
      (refine rgN <| kmv rfl <| K.callM [(1000000, 700)] (rd 700 l' b') (hD) rfl rfl (by exact (And.intro ⟨_, rfl, rfl⟩ trivial)) (by exact (all_cons_true (all_cons_true rfl (all_cons_true rfl rfl)) rfl)) rfl rfl rfl rfl (by exact (.box rfl rfl .nil)) .plain <| K.not rfl rfl .plain <| kmv rfl <| gmv rfl rfl rfl <| K.neq rfl rfl hne (.taken rfl rfl) ?_; refine kpf rfl rfl <| kmv rfl <| K.loadAll rfl rfl rfl (.taken rfl rfl) ?_; refine K.callL [21] rfl rfl rfl (hc _ rfl) (.taken rfl rfl) ?_; refine K.neq rfl rfl hne2 (.taken rfl rfl) ?_; refine kpf rfl rfl <| RunK.nil <| LWP.condT rfl ?_; refine LWP.seq <| rgN <| K.build rfl rfl (by exact rfl) (by exact nl3 rfl rfl rfl rfl) .plain ?_; refine K.storeAll rfl rfl rfl rfl rfl rfl .plain ?_; refine kas rfl <| RunK.nil <| LWP.ret ?_)
      exact ⟨[], ⟨[_, _], ⟨⟨_, _, rfl, rfl, rfl, .inl ⟨AggT.h, rfl⟩⟩, rfl, trivial⟩, rfl⟩, (by repeat' (first | exact trivial | refine And.intro ⟨_, rfl, ?_⟩ ?_ | refine And.intro ⟨_, rfl⟩ ?_ | rfl | exact Box.ren_bytes _ _ _ _ | exact Box.ren_vals _ _ _ _ | exact Box.ren_mid rfl)), rfl, rfl⟩
end Go.Proofs.YtamplgnbbanamaaGreatDoor
end
section
namespace Go.Proofs.YtamplgnbbanamaaGreatDoor
open Go Go.Lg Go.Lg.Fml Go.Lg.Fld Go.Lg.Arith
set_option maxRecDepth 100000
def txt1 (l : List (List UInt8)) : List Value := l.map fun t => .string ⟨t.toArray⟩
theorem txt1_len (l : List (List UInt8)) : (txt1 l).length = l.length := List.length_map _
theorem txt1_snoc (l : List (List UInt8)) (t : List UInt8) : txt1 (l ++ [t]) = txt1 l ++ [.string ⟨t.toArray⟩] := by unfold txt1; simp
def wordsR (r : Rl) : List (List UInt8) := if r.old = 0 then [[102, 114, 101, 115, 104], dg1 r.nw] else [dg1 r.nw, [102, 114, 111, 109], dg1 r.old] ++ r.ex.map showX
theorem tailL_join : ∀ l : List (List Ins), Lib.joinTail [32] (l.map showX) = tailL l
  | [] => rfl
  | c :: t => by
    have := tailL_join t
    unfold Lib.joinTail at this ⊢
    simp only [List.map_cons, List.flatten_cons, tailL, this]
    rfl
theorem words_join (r : Rl) : Lib.join (wordsR r) [32] = lineR r := by
  unfold wordsR lineR
  by_cases h : r.old = 0
  · rw [if_pos h, if_pos h, Lib.join_cons]
    simp [Lib.joinTail]
  · rw [if_neg h, if_neg h, List.cons_append, Lib.join_cons, ← tailL_join]
    simp [Lib.joinTail]
theorem lineR_len {r : Rl} (h1 : 0 ≤ r.nw ∧ r.nw ≤ 24) (h2 : 0 ≤ r.old ∧ r.old ≤ 24) (hi : ∀ c ∈ r.ex, ∀ x ∈ c, In2 x.k.2) : (lineR r).length ≤ 100 + 3201 * r.ex.length := by
  have l1 := Lib.itoa_length_le r.nw (by omega) (by omega)
  have l2 := Lib.itoa_length_le r.old (by omega) (by omega)
  have l3 := tailL_len r.ex hi
  unfold lineR dg1
  split
  · rw [List.length_append]
    simp only [List.length_cons, List.length_nil]
    omega
  · rw [List.length_append, List.length_append, List.length_append]
    simp only [List.length_cons, List.length_nil]
    omega
variable (X : Nat → Option Obj)
theorem kItoa (n : Nat) (h1 : n < 100) : PSpec Tryz.prog X 70 [Ln .i64 (n : Nat)] (Ls (dg1 (n : Nat))) :=
  PSpec.ofBelow (vals := [.int .i64 (n : Nat)]) (v := .string ⟨(Lib.itoa (n : Nat)).toArray⟩) (by kernel_rfl) rfl rfl (fun w _ => (Tryz.strconv_Itoa_small n h1 w).mono fun _ _ ⟨he, hw⟩ => ⟨by rw [Lib.itoa_nonneg]; exact he, by rw [hw]; exact Go.RowKit.Below.refl _ _⟩)
theorem kJoin_lent {S : Nat → Option (Option Box)} {l : List (List UInt8)} {k : Nat} {el : TypeId} {row : Bool} (hl : l.length ≤ 140737488355328) (hj : (Lib.join l [32]).length ≤ 140737488355328) (hk : S k = some (some ⟨el, (txt1 l).map .val, row⟩)) :
    ∀ (Y : Nat → Option Obj) (us : List Value), (∀ b o, X b = some o → Y b = some o) → LentLs S Y [.sv (.one (.slc k 0 l.length)), Ls [32]] us → PSpec Tryz.prog Y 44 (us.map toLV) (Ls (Lib.join l [32])) := by
  intro Y us hY hL
  obtain ⟨u1, us1, rfl, ⟨b, blk, cap2, m, hk', rfl, hc, hfit, hB⟩, u2, us2, rfl, h2, rfl⟩ := hL
  have h2 : u2 = .string ⟨([32] : List UInt8).toArray⟩ := h2
  subst h2
  rw [hk] at hk'
  simp only [Option.some.injEq] at hk'
  subst hk'
  obtain ⟨arr, fr, us', sp, hYb, hsz, harr, hv⟩ := hB
  have := hv _ rfl
  subst this
  refine PSpec.ofBelow (vals := [.slice (some ⟨blk, 0, none⟩) l.length cap2, .string ⟨([32] : List UInt8).toArray⟩]) (v := .string ⟨(Lib.join l [32]).toArray⟩) (by kernel_rfl) rfl rfl fun w hX => ?_
  have hb := hX _ _ hYb
  have hbk : blk < w.heap.size := (Array.getElem?_eq_some_iff.1 hb).1
  have hcells : ∀ (j : Nat) (x : ByteArray), (l.map fun t => (⟨t.toArray⟩ : ByteArray))[j]? = some x → w.cell? ⟨blk, 0 + j, none⟩ = some (.string x) := fun j x hx => by
    rw [List.getElem?_map] at hx
    cases ht : l[j]? with
    | none => rw [ht] at hx; cases hx
    | some t =>
      rw [ht] at hx
      simp only [Option.map_some, Option.some.injEq] at hx
      subst hx
      have hjl := (List.getElem?_eq_some_iff.1 ht).1
      have ha : arr[0 + j]? = some (.string ⟨t.toArray⟩) := by
        rw [Nat.zero_add, ← Array.getElem?_toList, harr, List.getElem?_append_left (by rw [txt1_len]; exact hjl)]
        unfold txt1
        rw [List.getElem?_map, ht]
        rfl
      simpa [World.cell?, hb] using ha
  have hmap : ((l.map fun t => (⟨t.toArray⟩ : ByteArray)).map fun x => x.data.toList) = l := by rw [List.map_map]; exact List.map_id _
  have h := Tryz.strings_Join blk 0 cap2 (l.map fun t => (⟨t.toArray⟩ : ByteArray)) ⟨([32] : List UInt8).toArray⟩ w hcells hbk (by rw [List.length_map]; exact hl) (by rw [List.length_map]; exact hc) (by rw [hmap]; exact hj)
  rw [hmap, List.length_map] at h
  exact h
abbrev txB (k : Nat) (l : List (List UInt8)) (r : Bool) : Nat × Option Box := (k, some ⟨9, (txt1 l).map .val, r⟩)
abbrev woSt (ead : Option Addr) (n ecap i : Nat) (l : List (List UInt8)) (r : Bool) (Y : Nat → Option Obj) : St :=
  ⟨[(4, .sv (.one (.slc 500 0 l.length 1))), (21, Lx ead n ecap), (22, Ln .i64 (n : Nat)), (23, Ln .i64 (i : Nat))], [txB 500 l r], Y⟩
set_option maxHeartbeats 6400000 in
theorem kWords (hT : XTab X) (r : Rl) (ead : Option Addr) (ecap : Nat) (hE : CodesIn X ead r.ex) (h1 : 0 ≤ r.nw ∧ r.nw ≤ 24) (h2 : 0 ≤ r.old ∧ r.old ≤ 24) (hn : r.ex.length ≤ 65536) (hc : ∀ c ∈ r.ex, c.length ≤ 65536) :
    MSpec Tryz.prog X 45 [LPg r.nw r.old ead r.ex.length ecap] [] (.sv (.one (.slc 1000001 0 (wordsR r).length 1))) [txB 1000001 (wordsR r) true] := by
  obtain ⟨nw, old, ex⟩ := r
  simp only at hE h1 h2 hn hc ⊢
  obtain ⟨a, rfl⟩ := Int.eq_ofNat_of_zero_le h1.1
  obtain ⟨b, rfl⟩ := Int.eq_ofNat_of_zero_le h2.1
  have hA := kItoa X a (by omega)
  have hB := kItoa X b (by omega)
  have hrl : ∀ l : List (List UInt8), ((txt1 l).map CV.val).length = l.length * 1 := fun l => by rw [List.length_map, txt1_len, Nat.mul_one]
  refine MSpec.intro Tryz.func45 rfl (by kernel_rfl) rfl (by exact (by repeat' (first | refine all_cons_true ?_ ?_ | rfl | exact bytes_inUse | exact vals_inUse | exact mid_inUse rfl))) (by exact (by repeat' (first | refine all_cons_true ?_ ?_ | rfl | exact bytes_inUse | exact vals_inUse | exact mid_inUse rfl))) rfl rfl ?_
  intro C
  refine LWP.ends ?_
  by_cases h0 : ((b : Nat) : Int) = 0
  · rw [show wordsR ⟨(a : Nat), (b : Nat), ex⟩ = [[102, 114, 101, 115, 104], dg1 (a : Nat)] from if_pos h0]
    generalize dg1 (a : Nat) = da at *
    (refine LWP.seq <| rgN <| K.box rfl rfl rfl .plain <| kas rfl <| RunK.nil <| LWP.seq <| rgN <| kfa rfl rfl ?_; refine kl1 rfl rfl rfl <| kca rfl rfl hA <| kas rfl <| RunK.nil <| LWP.seq <| LWP.seq <| rgN <| kfa rfl rfl ?_; refine kl1 rfl rfl rfl <| keq rfl rfl (beq_iff_eq.2 h0) <| RunK.nil <| LWP.condT rfl ?_; refine LWP.seq <| rgN <| kmv rfl <| K.buildSlc (zs := [.string ⟨#[]⟩, .string ⟨#[]⟩]) (sz := 1) (e := 9) (cs' := [.val (.string ⟨([102, 114, 101, 115, 104] : List UInt8).toArray⟩), .val (.string ⟨da.toArray⟩)]) (by kernel_rfl) rfl rfl rfl rfl rfl rfl .plain <| kas rfl <| RunK.nil <| LWP.ret ?_)
    refine Leads.le (σ' := ⟨[(2, .sv (.one (.slc 14 0 2 1)))], [txB 14 [[102, 114, 101, 115, 104], da] false], X⟩) (Le.of (by exact ⟨rfl, trivial⟩) (by exact ⟨rfl, trivial⟩) (by exact rfl) (by exact rfl) (by repeat' (first | refine all_cons_true ?_ ?_ | rfl | exact bytes_inUse | exact vals_inUse | exact mid_inUse rfl))) ?_
    refine Leads.le Le.loose (Leads.done ?_)
    exact ⟨[(1000001, 14)], ⟨[_], ⟨rfl, trivial⟩, rfl⟩, (by repeat' (first | exact trivial | refine And.intro ⟨_, rfl, ?_⟩ ?_ | refine And.intro ⟨_, rfl⟩ ?_ | rfl | exact Box.ren_bytes _ _ _ _ | exact Box.ren_vals _ _ _ _ | exact Box.ren_mid rfl)), rfl, rfl⟩
  rw [show wordsR ⟨(a : Nat), (b : Nat), ex⟩ = [dg1 (a : Nat), [102, 114, 111, 109], dg1 (b : Nat)] ++ ex.map showX from if_neg h0]
  generalize dg1 (a : Nat) = da at *
  generalize dg1 (b : Nat) = db at *
  (refine LWP.seq <| rgN <| K.box rfl rfl rfl .plain <| kas rfl <| RunK.nil <| LWP.seq <| rgN <| kfa rfl rfl ?_; refine kl1 rfl rfl rfl <| kca rfl rfl hA <| kas rfl <| RunK.nil <| LWP.seq <| LWP.seq <| rgN <| kfa rfl rfl ?_; refine kl1 rfl rfl rfl <| keq rfl rfl (beq_eq_false_iff_ne.2 h0) <| RunK.nil <| LWP.condF rfl ?_; refine LWP.skip ?_; refine LWP.seq <| rgN <| kmv rfl <| kfa rfl rfl ?_; refine kl1 rfl rfl rfl <| kca rfl rfl hB <| K.buildSlc (zs := [.string ⟨#[]⟩, .string ⟨#[]⟩, .string ⟨#[]⟩]) (sz := 1) (e := 9) (cs' := [.val (.string ⟨da.toArray⟩), .val (.string ⟨([102, 114, 111, 109] : List UInt8).toArray⟩), .val (.string ⟨db.toArray⟩)]) (by kernel_rfl) rfl rfl rfl rfl rfl rfl .plain <| kas rfl <| RunK.nil <| LWP.seq <| LWP.seq <| rgN <| kfa rfl rfl ?_; refine kl1 rfl rfl rfl <| K.lenX rfl SliceT.h rfl .plain ?_; refine kmv rfl <| RunK.nil <| LWP.block ?_)
  refine LWP.loop (fun m σ => ∃ (i : Nat) (r : Bool), i ≤ ex.length ∧ m = ex.length - i ∧ σ = woSt ead ex.length ecap i ([da, [102, 114, 111, 109], db] ++ (ex.take i).map showX) r X) ex.length
    ⟨woSt ead ex.length ecap 0 [da, [102, 114, 111, 109], db] false X, Le.ofR [(500, 19)] (by exact ⟨rfl, rfl, rfl, rfl, trivial⟩) (by repeat' (first | exact trivial | refine And.intro ⟨_, rfl, ?_⟩ ?_ | refine And.intro ⟨_, rfl⟩ ?_ | rfl | exact Box.ren_bytes _ _ _ _ | exact Box.ren_vals _ _ _ _ | exact Box.ren_mid rfl)) (by exact rfl) (by exact rfl) (by repeat' (first | refine all_cons_true ?_ ?_ | rfl | exact bytes_inUse | exact vals_inUse | exact mid_inUse rfl)) (by exact rfl) (by exact rfl), 0, false, by omega, by omega, rfl⟩ ?_
  rintro m σ ⟨i, row, hi, rfl, rfl⟩
  by_cases hlt : i < ex.length
  case neg =>
    have e : i = ex.length := by omega
    subst e
    rw [List.take_length]
    generalize [da, [102, 114, 111, 109], db] ++ ex.map showX = L at *
    (refine LWP.seq <| rgN <| klt rfl rfl (decide_eq_false (by omega)) <| RunK.nil <| LWP.seq <| LWP.condF rfl ?_; refine LWP.exit <| LWP.seq <| rgN <| kmv rfl <| kas rfl <| RunK.nil <| LWP.ret ?_)
    refine Leads.le (σ' := ⟨[(2, .sv (.one (.slc 500 0 L.length 1)))], [txB 500 L row], X⟩) (Le.ofR [(500, 500)] (by exact ⟨rfl, trivial⟩) (by repeat' (first | exact trivial | refine And.intro ⟨_, rfl, ?_⟩ ?_ | refine And.intro ⟨_, rfl⟩ ?_ | rfl | exact Box.ren_bytes _ _ _ _ | exact Box.ren_vals _ _ _ _ | exact Box.ren_mid rfl)) (by exact rfl) (by exact rfl) (by repeat' (first | refine all_cons_true ?_ ?_ | rfl | exact bytes_inUse | exact vals_inUse | exact mid_inUse rfl)) (by exact rfl) (by exact rfl)) ?_
    refine Leads.le Le.loose (Leads.done ?_)
    exact ⟨[(1000001, 500)], ⟨[_], ⟨rfl, trivial⟩, rfl⟩, (by repeat' (first | exact trivial | refine And.intro ⟨_, rfl, ?_⟩ ?_ | refine And.intro ⟨_, rfl⟩ ?_ | rfl | exact Box.ren_bytes _ _ _ _ | exact Box.ren_vals _ _ _ _ | exact Box.ren_mid rfl)), rfl, rfl⟩
  obtain ⟨c, hcc⟩ : ∃ c, ex[i]? = some c := ⟨_, List.getElem?_eq_getElem hlt⟩
  obtain ⟨eb, eo, earr, eel, efr, vad, vcap, rfl, hEX, hec, hI⟩ := hE.get hcc
  have hio : eo + Int.toNat (i : Int) * 1 = eo + i * 1 := by simp
  have hcl := hc c (List.mem_of_getElem? hcc)
  have hG := gShow X hT c vad vcap hI (by omega)
  have hnx : [da, [102, 114, 111, 109], db] ++ (ex.take (i + 1)).map showX = ([da, [102, 114, 111, 109], db] ++ (ex.take i).map showX) ++ [showX c] := by rw [take_snoc hcc, List.map_append, List.append_assoc]; rfl
  have hLl : ([da, [102, 114, 111, 109], db] ++ (ex.take i).map showX).length = 3 + i := by
    rw [List.length_append, List.length_map, List.length_take]
    simp only [List.length_cons, List.length_nil]
    omega
  generalize [da, [102, 114, 111, 109], db] ++ (ex.take i).map showX = L at *
  generalize showX c = sc at *
  have hadd : IntKind.i64.wrap (((i : Nat) : Int) + 1) = ((i + 1 : Nat) : Int) := by rw [wrap_i64 (by omega)]; omega
  have hnc : (txt1 L).map CV.val ++ [.val (.string ⟨sc.toArray⟩)] = (txt1 (L ++ [sc])).map CV.val := by rw [txt1_snoc, List.map_append]; rfl
  have hnl : L.length + 1 = (L ++ [sc]).length := by rw [List.length_append]; rfl
  (refine LWP.seq <| rgN <| klt rfl rfl (decide_eq_true (by omega)) <| RunK.nil <| LWP.seq <| LWP.condT rfl ?_; refine LWP.skip ?_; refine LWP.seq <| LWP.block <| LWP.seq <| rgN <| K.indexX rfl rfl SliceT.h (by omega) hio .plain <| K.loadX rfl hEX rfl hec .plain <| kas rfl <| RunK.nil <| rgN <| kmv rfl <| kmv rfl <| kca rfl rfl hG <| K.buildSlc (zs := [.string ⟨#[]⟩]) (sz := 1) (e := 9) (cs' := [.val (.string ⟨sc.toArray⟩)]) (by kernel_rfl) rfl rfl rfl rfl rfl rfl .plain <| K.appendSlc (by_ := 16) (e2 := 9) (l2 := [.val (.string ⟨sc.toArray⟩)]) (nl := (L ++ [sc]).length) (nc := (txt1 (L ++ [sc])).map .val) rfl rfl (hrl L) rfl rfl (Nat.le_refl _) rfl rfl (by kernel_rfl) (by kernel_rfl) (by omega) (by omega) rfl hnl hnc .plain ?_; refine kas rfl <| RunK.nil <| rgN <| kad rfl rfl hadd <| kmv rfl <| RunK.nil ?_)
  exact ⟨_, woSt (some ⟨eb, eo, none⟩) ex.length ecap (i + 1) (L ++ [sc]) true X, by omega, Le.ofR [(500, 31)] (by exact ⟨rfl, rfl, rfl, rfl, trivial⟩) (by repeat' (first | exact trivial | refine And.intro ⟨_, rfl, ?_⟩ ?_ | refine And.intro ⟨_, rfl⟩ ?_ | rfl | exact Box.ren_bytes _ _ _ _ | exact Box.ren_vals _ _ _ _ | exact Box.ren_mid rfl)) (by exact rfl) (by exact rfl) (by repeat' (first | refine all_cons_true ?_ ?_ | rfl | exact bytes_inUse | exact vals_inUse | exact mid_inUse rfl)) (by exact rfl) (by exact rfl), i + 1, true, by omega, rfl, by rw [hnx]⟩
def zerS (k : Nat) : List Value := List.replicate k (.string ⟨#[]⟩)
theorem zerS_splice {l : List (List UInt8)} {k i : Nat} {t : List UInt8} (hi : l.length = i) : splice ((txt1 l ++ zerS (k + 1)).map CV.val) i [.val (.string ⟨t.toArray⟩)] = (txt1 (l ++ [t]) ++ zerS k).map CV.val := by
  unfold splice
  rw [show zerS (k + 1) = .string ⟨#[]⟩ :: zerS k from List.replicate_succ, txt1_snoc]
  simp only [List.map_append, List.append_assoc]
  have hml : ((txt1 l).map CV.val).length = i := by rw [List.length_map, txt1_len, hi]
  generalize (txt1 l).map CV.val = R at *
  rw [← hml, List.take_left, List.drop_length_add_append]
  simp
abbrev liSt (ad : Option Addr) (n cap i : Nat) (l : List (List UInt8)) (Y : Nat → Option Obj) : St :=
  ⟨[(3, .sv (.one (.slc 12 0 n 1))), (14, Lx ad n cap), (15, Ln .i64 (n : Nat)), (16, Ln .i64 (i : Nat))], [(12, some ⟨9, (txt1 l ++ zerS (n - i)).map .val, false⟩)], Y⟩
set_option maxHeartbeats 6400000 in
theorem kLines_ok (hT : XTab X) (p : Pg) (ad : Option Addr) (cap : Nat) (hin : RulesIn X ad p.rs) (hbig : p.rs.length < 4611686018427387904) (hsz : sizeR p.rs) (hz : chkP p = 0) :
    MSpec Tryz.prog X 21 [LPg p.va p.vb ad p.rs.length cap] [] (.sv (.one (.slc 1000001 0 p.rs.length 1))) [txB 1000001 (p.rs.map lineR) true] := by
  have hc := kCheck X p ad cap hin hbig hsz
  rw [hz] at hc
  obtain ⟨_, _, hcr, h24⟩ := chkP_zero hz
  obtain ⟨va, vb, rs⟩ := p
  simp only at hin hbig hsz hc hcr h24 ⊢
  have hi2 := hin.in2
  have hmk : slcBuild Tryz.prog 55 rs.length = some (zerS rs.length, 1, 9) := slcBuild_one (by kernel_rfl) (by kernel_rfl) (by omega)
  refine MSpec.intro Tryz.func21 rfl (by kernel_rfl) rfl (by exact (by repeat' (first | refine all_cons_true ?_ ?_ | rfl | exact bytes_inUse | exact vals_inUse | exact mid_inUse rfl))) (by exact (by repeat' (first | refine all_cons_true ?_ ?_ | rfl | exact bytes_inUse | exact vals_inUse | exact mid_inUse rfl))) rfl rfl ?_
  intro C
  refine LWP.ends ?_
  (refine LWP.seq <| rgN <| K.box rfl rfl rfl .plain <| kas rfl <| RunK.nil <| LWP.seq <| LWP.seq <| rgN <| K.loadAll rfl rfl rfl .plain ?_; refine kca rfl rfl hc <| kne rfl rfl (r := false) rfl <| RunK.nil <| LWP.condF rfl ?_; refine LWP.skip ?_; refine LWP.seq <| rgN <| kfa rfl rfl ?_; refine kl1 rfl rfl rfl <| K.lenX rfl SliceT.h rfl .plain ?_; refine K.makeSlc (m := rs.length) (bytes := 16) rfl rfl hmk (by kernel_rfl) (by omega) rfl rfl .plain <| kas rfl <| RunK.nil <| LWP.seq <| LWP.seq <| rgN <| kfa rfl rfl ?_; refine kl1 rfl rfl rfl <| K.lenX rfl SliceT.h rfl .plain ?_; refine kmv rfl <| RunK.nil <| LWP.block ?_)
  refine LWP.loop (fun m σ => ∃ i : Nat, i ≤ rs.length ∧ m = rs.length - i ∧ σ = liSt ad rs.length cap i ((rs.take i).map lineR) X) rs.length
    ⟨liSt ad rs.length cap 0 [] X, Le.of (by exact ⟨rfl, rfl, rfl, rfl, trivial⟩) (by exact ⟨rfl, trivial⟩) (by exact rfl) (by exact rfl) (by repeat' (first | refine all_cons_true ?_ ?_ | rfl | exact bytes_inUse | exact vals_inUse | exact mid_inUse rfl)), 0, by omega, by omega, rfl⟩ ?_
  rintro m σ ⟨i, hi, rfl, rfl⟩
  by_cases hlt : i < rs.length
  case neg =>
    have e : i = rs.length := by omega
    subst e
    unfold liSt
    rw [List.take_length, Nat.sub_self, show zerS 0 = [] from rfl, List.append_nil]
    (refine LWP.seq <| rgN <| klt rfl rfl (decide_eq_false (by omega)) <| RunK.nil <| LWP.seq <| LWP.condF rfl ?_; refine LWP.exit <| LWP.seq <| rgN <| kmv rfl <| kas rfl <| RunK.nil <| LWP.ret ?_)
    refine Leads.le (σ' := ⟨[(2, .sv (.one (.slc 12 0 rs.length 1)))], [txB 12 (rs.map lineR) false], X⟩) (Le.of (by exact ⟨rfl, trivial⟩) (by exact ⟨rfl, trivial⟩) (by exact rfl) (by exact rfl) (by repeat' (first | refine all_cons_true ?_ ?_ | rfl | exact bytes_inUse | exact vals_inUse | exact mid_inUse rfl))) ?_
    refine Leads.le Le.loose (Leads.done ?_)
    exact ⟨[(1000001, 12)], ⟨[_], ⟨rfl, trivial⟩, rfl⟩, (by repeat' (first | exact trivial | refine And.intro ⟨_, rfl, ?_⟩ ?_ | refine And.intro ⟨_, rfl⟩ ?_ | rfl | exact Box.ren_bytes _ _ _ _ | exact Box.ren_vals _ _ _ _ | exact Box.ren_mid rfl)), rfl, rfl⟩
  obtain ⟨r, hr⟩ : ∃ r, rs[i]? = some r := ⟨_, List.getElem?_eq_getElem hlt⟩
  have hmem := List.mem_of_getElem? hr
  obtain ⟨last, hl⟩ := chkRs_mem hcr r hmem
  obtain ⟨q1, q2, _, _, q5, q6⟩ := chkR_zero hl
  obtain ⟨blk, off, arr, el, fr, ead, ecap, rfl, hX, hsiz, hcs, _, _, _, hE⟩ := hin.get hr
  have hio : off + Int.toNat (i : Int) * 3 = off + i * 3 := by simp
  have hix : 0 + Int.toNat (i : Int) * 1 = i := by rw [Int.toNat_natCast]; omega
  have hcl : ∀ c ∈ r.ex, c.length ≤ 65536 := fun c hc => by
    have he := firstX_zero q6 c hc
    by_cases hz : chkX c = 0
    · have := (chkX_zero hz).1; omega
    · exact absurd ((if_neg hz : encErr c = chkX c) ▸ he) hz
  have hW := kWords X hT r ead ecap hE ⟨by omega, q1.2⟩ q2 (by omega) hcl
  have hll := lineR_len ⟨by omega, q1.2⟩ q2 (hi2 r hmem)
  have hwj := words_join r
  have hJ := fun (S : Nat → Option (Option Box)) (hk : S 601 = some (some ⟨9, (txt1 (wordsR r)).map .val, true⟩)) => kJoin_lent X (S := S) (l := wordsR r) (k := 601) (by
    unfold wordsR
    split
    · simp
    · rw [List.length_append, List.length_map]; simp only [List.length_cons, List.length_nil]; omega) (by rw [hwj]; omega) hk
  rw [hwj] at hJ
  have hml : ((rs.take i).map lineR).length = i := by rw [List.length_map, List.length_take]; omega
  have hnx : (rs.take (i + 1)).map lineR = (rs.take i).map lineR ++ [lineR r] := by rw [take_snoc hr, List.map_append]; rfl
  clear hll hwj
  generalize wordsR r = W at *
  generalize lineR r = ln at *
  generalize (rs.take i).map lineR = L at *
  have hroom : i + 1 ≤ ((txt1 L ++ zerS (rs.length - i)).map CV.val).length := by
    rw [List.length_map, List.length_append, txt1_len, hml]
    unfold zerS
    rw [List.length_replicate]; omega
  have hspl : splice ((txt1 L ++ zerS (rs.length - i)).map CV.val) i [.val (.string ⟨ln.toArray⟩)] = (txt1 (L ++ [ln]) ++ zerS (rs.length - (i + 1))).map CV.val := by
    rw [show rs.length - i = (rs.length - (i + 1)) + 1 by omega, zerS_splice hml]
  have hadd : IntKind.i64.wrap (((i : Nat) : Int) + 1) = ((i + 1 : Nat) : Int) := by rw [wrap_i64 (by omega)]; omega
  (refine LWP.seq <| rgN <| klt rfl rfl (decide_eq_true (by omega)) <| RunK.nil <| LWP.seq <| LWP.condT rfl ?_; refine LWP.skip ?_; refine LWP.seq <| LWP.block <| LWP.seq <| rgN <| kmv rfl <| K.indexX rfl rfl SliceT.h (by omega) hio .plain <| K.loadXagg rfl hX (by kernel_rfl) hsiz hcs .plain <| K.alloc rfl .plain ?_; refine kas rfl <| K.storeAll rfl rfl rfl rfl rfl rfl .plain ?_; refine RunK.nil <| rgN <| kmv rfl <| kmv rfl <| K.loadAll rfl rfl rfl .plain ?_; refine K.callMp [(1000001, 601)] (.sv (.one (.slc 601 0 W.length 1))) [txB 601 W true] (hW) rfl rfl (by exact trivial) rfl rfl rfl rfl rfl (by exact (.box rfl (Box.ren_vals _ _ _ _) .nil)) .plain <| K.callL [601] rfl rfl rfl (hJ _ rfl) .plain ?_; refine K.indexSlc rfl rfl (by omega) hix .plain ?_; refine K.store rfl rfl rfl rfl (by kernel_rfl) hroom hspl .plain <| RunK.nil <| rgN <| kad rfl rfl hadd <| kmv rfl <| RunK.nil ?_)
  exact ⟨_, liSt (some ⟨blk, off, none⟩) rs.length cap (i + 1) (L ++ [ln]) X, by omega, Le.of (by exact ⟨rfl, rfl, rfl, rfl, trivial⟩) (by exact ⟨rfl, trivial⟩) (by exact rfl) (by exact rfl) (by repeat' (first | refine all_cons_true ?_ ?_ | rfl | exact bytes_inUse | exact vals_inUse | exact mid_inUse rfl)), i + 1, by omega, rfl, by rw [hnx]⟩
end Go.Proofs.YtamplgnbbanamaaGreatDoor
end
section
namespace Go.Proofs.YtamplgnbbanamaaGreatDoor
open Go Go.Lg Go.Lg.Fml Go.Lg.Fld Go.Lg.Arith
set_option maxRecDepth 100000
def pgOk (p : Pg) : Prop := p.rs.length ≤ 30 ∧ ∀ r ∈ p.rs, r.ex.length ≤ 12 ∧ ∀ c ∈ r.ex, c.length ≤ 80
theorem pgOk.size {p : Pg} (h : pgOk p) : sizeR p.rs := fun r hr => by
  obtain ⟨h1, h2⟩ := h.2 r hr
  exact ⟨by omega, fun c hc => by have := h2 c hc; omega⟩
theorem pgOk.big {p : Pg} (h : pgOk p) : p.rs.length < 4611686018427387904 := by have := h.1; omega
theorem pgOk.half {p : Pg} (h : pgOk p) : ∀ r ∈ p.rs, r.ex.length ≤ 65536 ∧ ∀ c ∈ r.ex, c.length ≤ 65536 := fun r hr => by
  obtain ⟨h1, h2⟩ := h.2 r hr
  exact ⟨by omega, fun c hc => by have := h2 c hc; omega⟩
variable (X : Nat → Option Obj)
section
variable (p : Pg) (ad : Option Addr) (cap : Nat) (hin : RulesIn X ad p.rs) (hs : pgOk p)
include hin hs
theorem hCheck : PSpec Tryz.prog X 12 [LPg p.va p.vb ad p.rs.length cap] (Ln .i64 (chkP p)) := kCheck X p ad cap hin hs.big hs.size
theorem hEncode : PSpec Tryz.prog X 11 [LPg p.va p.vb ad p.rs.length cap] (.tup [Ss (encPT p), Sn .i64 (chkP p)]) := kEncode X p ad cap hin hs.big hs.size
theorem hFind_yes (id : Int) {r : Rl} (h : findP p.rs id = some r) : MSpec Tryz.prog X 18 [LPg p.va p.vb ad p.rs.length cap, Ln .i64 id] [] (.tup [SRs r 1000001, Sb true]) [cdB 1000001 r.ex] := kFind_yes X p ad cap hin hs.big hs.half id h
theorem hFrom (old : Int) : MSpec Tryz.prog X 20 [LPg p.va p.vb ad p.rs.length cap, Ln .i64 old] [] (.sv (.one (.slc 1000001 0 (fromP p.rs old).length 1))) [(1000001, some ⟨3, (int1 (fromP p.rs old)).map .val, true⟩)] := kFrom X p ad cap hin (by have := hs.1; omega) old
theorem hLines (hT : XTab X) (hz : chkP p = 0) : MSpec Tryz.prog X 21 [LPg p.va p.vb ad p.rs.length cap] [] (.sv (.one (.slc 1000001 0 p.rs.length 1))) [txB 1000001 (p.rs.map lineR) true] := kLines_ok X hT p ad cap hin hs.big hs.size hz
theorem hSame (q : Pg) (bd : Option Addr) (cap2 : Nat) (hin2 : RulesIn X bd q.rs) : PSpec Tryz.prog X 19 [LPg p.va p.vb ad p.rs.length cap, LPg q.va q.vb bd q.rs.length cap2] (Lb (decide (p = q))) := kSame X p q ad bd cap cap2 hin hin2 hs.big hs.size
end
theorem hDecode_no (s : List UInt8) (hs : s.length ≤ 1099511627776) (h : decP s = none) : PSpec Tryz.prog X 14 [Ls s] (.tup [SPg 0 0 none 0 0, Sn .i64 4]) := by
  have hM := kDecodeM X s hs
  obtain ⟨q1, q2⟩ := kp_none h
  rw [q1, q2] at hM
  exact hM.plain
theorem hDecode_ok (s : List UInt8) (hs : s.length ≤ 1099511627776) {p : Pg} (h : decP s = some p) : MSpec Tryz.prog X 14 [Ls s] [] (.tup [.agg [.val (.int .i64 p.va), .val (.int .i64 p.vb), .slc 1000001 0 p.rs.length 3], Sn .i64 0]) [rlB 46 1000001 p.rs] := by
  have hM := kDecodeM X s hs
  obtain ⟨q1, q2⟩ := kp_some h
  rw [q1, q2] at hM
  exact hM
theorem hsame_lent {S : Nat → Option (Option Box)} {p q : Pg} {ad : Option Addr} {cap k : Nat} {e : TypeId} {cc : List CV} {t : TypeId} {r : Bool} (hin : RulesIn X ad p.rs) (hs : pgOk p) (he : decide (p = q) = r) (hk : S k = some (some ⟨e, cc, .res (rlR t q.rs)⟩)) :
    ∀ (Y : Nat → Option Obj) (us : List Value), (∀ b o, X b = some o → Y b = some o) → LentLs S Y [LPg p.va p.vb ad p.rs.length cap, .sv (.agg [.val (.int .i64 q.va), .val (.int .i64 q.vb), .slc k 0 q.rs.length 3])] us → PSpec Tryz.prog Y 19 (us.map toLV) (Lb r) := by
  intro Y us hY hL
  obtain ⟨u1, us1, rfl, ⟨av, rfl, a1, av1, rfl, g1, a2, av2, rfl, g2, a3, av3, rfl, g3, rfl⟩, u2, us2, rfl, ⟨bv, rfl, b1, bv1, rfl, f1, b2, bv2, rfl, f2, b3, bv3, rfl, f3, rfl⟩, rfl⟩ := hL
  have g1 : a1 = .int .i64 p.va := g1
  have g2 : a2 = .int .i64 p.vb := g2
  have g3 : a3 = .slice ad p.rs.length cap := g3
  have f1 : b1 = .int .i64 q.va := f1
  have f2 : b2 = .int .i64 q.vb := f2
  subst g1 g2 g3 f1 f2
  obtain ⟨bb, blk, cap2, m, hk', rfl, hc, hfit, hB⟩ := f3
  rw [hk] at hk'
  simp only [Option.some.injEq] at hk'
  subst hk'
  obtain ⟨H, hR, hHY⟩ := hB
  have := hSame Y p ad cap (hin.mono hY) hs q (some ⟨blk, 0, none⟩) cap2 (hR.2.mono hHY)
  rw [he] at this
  exact this
end Go.Proofs.YtamplgnbbanamaaGreatDoor
end
section
namespace Go.Proofs.YtamplgnbbanamaaGreatDoor
open Go Go.Lg Go.Lg.Fml Go.Lg.Fld Go.Lg.Arith
set_option maxRecDepth 100000
def prog0 : Pg := ⟨1, 2, [⟨1, 0, []⟩, ⟨2, 1, [code0]⟩]⟩
theorem chk0 : chkP prog0 = 0 := by rfl
theorem in0 : InP prog0 := by
  intro r hr c hc x hx
  simp only [prog0, List.mem_cons, List.not_mem_nil, or_false] at hr
  rcases hr with rfl | rfl
  · cases hc
  · simp only [List.mem_cons, List.not_mem_nil, or_false] at hc
    subst hc
    exact (small_0 x hx).2.2.2
theorem encT0 : encPT prog0 = encP prog0 := if_pos chk0
theorem dec0 : decP (encPT prog0) = some prog0 := by rw [encT0]; exact decP_enc chk0 in0
theorem len0 : 20 < (encPT prog0).length ∧ (encPT prog0).length ≤ 1099511627776 := by rw [encT0]; exact ⟨by decide, by decide⟩
theorem dg1_1 : dg1 1 = [49] := by
  show Lib.itoa 1 = [49]
  rw [show (1 : Int) = ((1 : Nat) : Int) from rfl]
  first
    | rfl
    | decide
    | simp [Lib.itoa, Lib.decDigits]
theorem dg1_2 : dg1 2 = [50] := by
  show Lib.itoa 2 = [50]
  rw [show (2 : Int) = ((2 : Nat) : Int) from rfl]
  first
    | rfl
    | decide
    | simp [Lib.itoa, Lib.decDigits]
def line1 : List UInt8 := [102, 114, 101, 115, 104, 32, 49]
def line2 : List UInt8 := [50, 32, 102, 114, 111, 109, 32, 49, 32, 109, 117, 108, 40, 102, 48, 46, 48, 44, 50, 41]
theorem lines0 : prog0.rs.map lineR = [line1, line2] := by
  show [lineR ⟨1, 0, []⟩, lineR ⟨2, 1, [code0]⟩] = _
  have h1 : lineR ⟨1, 0, []⟩ = line1 := by
    show [102, 114, 101, 115, 104, 32] ++ dg1 1 = _
    rw [dg1_1]; rfl
  have h2 : lineR ⟨2, 1, [code0]⟩ = line2 := by
    show ((dg1 2 ++ [32, 102, 114, 111, 109, 32]) ++ dg1 1) ++ ((32 :: showX code0) ++ []) = _
    rw [dg1_1, dg1_2, show0]; rfl
  rw [h1, h2]
theorem from0 : fromP prog0.rs 1 = [2] := by rfl
theorem find0 : findP prog0.rs 2 = some ⟨2, 1, [code0]⟩ := by rfl
theorem ok0 : pgOk prog0 := ⟨by decide, by
  intro r hr
  simp only [prog0, List.mem_cons, List.not_mem_nil, or_false] at hr
  rcases hr with rfl | rfl
  · exact ⟨by decide, fun c hc => by cases hc⟩
  · exact ⟨by decide, fun c hc => by
      simp only [List.mem_cons, List.not_mem_nil, or_false] at hc
      subst hc
      decide⟩⟩
theorem smallR0 : ∀ r ∈ prog0.rs, smallR r := by
  intro r hr
  simp only [prog0, List.mem_cons, List.not_mem_nil, or_false] at hr
  rcases hr with rfl | rfl <;> exact ⟨by decide, by decide⟩
variable (X : Nat → Option Obj)
abbrev izs12 : List Value := [.int .i64 0, .int .i64 0, .int .i64 0, .bool false, .int .u64 0, .int .u64 0]
abbrev rzs12 : List Value := [.int .i64 0, .int .i64 0, .slice none 0 0]
set_option maxHeartbeats 12800000 in
theorem awake12_spec (hTab : XTab X) : PSpec Tryz.prog X 7 [] (Lb true) := by
  have o2 := Of_spec X 2 (by decide)
  refine PSpec.intro Tryz.func7 rfl (by kernel_rfl) rfl rfl ?_
  intro C
  (refine LWP.seq <| rgN <| kas rfl <| RunK.nil <| LWP.seq <| rgN <| K.build rfl rfl (by exact rfl) (by exact nl6 rfl rfl rfl rfl rfl rfl rfl) .plain ?_; refine kca rfl rfl (o2) <| K.build rfl rfl (by exact rfl) (by exact nl6 rfl rfl rfl rfl rfl rfl rfl) .plain ?_; refine K.build rfl rfl (by exact rfl) (by exact nl6 rfl rfl rfl rfl rfl rfl rfl) .plain ?_; refine K.buildSlc (zs := (List.replicate 3 izs12).flatten) (sz := 6) (e := 66) (cs' := (inssV code0).map .val) (by kernel_rfl) rfl rfl rfl rfl rfl rfl .plain <| kas rfl <| RunK.nil <| LWP.seq ?_)
  refine LWP.le (σ' := ⟨[(1, .sv (.one (.slc 17 0 3 6)))], [(17, some ⟨66, (inssV code0).map .val, false⟩)], X⟩) (Le.of (by exact ⟨rfl, trivial⟩) (by exact ⟨rfl, trivial⟩) (by exact rfl) (by exact rfl) (by repeat' (first | refine all_cons_true ?_ ?_ | rfl | exact bytes_inUse | exact vals_inUse | exact mid_inUse rfl))) ?_
  refine LWP.freeze rfl rfl rfl ?_
  intro blk cap arr fr hXn hFz hcp hfit hsp
  have hin1 : InsIn (withBlock X blk (.cells arr 66 fr)) (some ⟨blk, 0, none⟩) code0 := ins_in (withBlock_at _ _ _) small_0 hsp
  replace hTab : XTab (withBlock X blk (.cells arr 66 fr)) := xtab_mono (withBlock_old hXn) hTab
  generalize withBlock X blk (.cells arr 66 fr) = Y at *
  (refine rgN <| K.build rfl rfl (by exact rfl) (by exact nl3 rfl rfl rfl rfl) .plain ?_; refine kmv rfl <| K.buildSlc (zs := [.slice none 0 0]) (sz := 1) (e := 68) (cs' := [.val (.slice (some ⟨blk, 0, none⟩) 3 cap)]) (by kernel_rfl) rfl rfl rfl rfl rfl rfl .plain <| K.build rfl rfl (by exact rfl) (by exact nl3 rfl rfl rfl rfl) .plain ?_; refine K.buildSlc (zs := (List.replicate 2 rzs12).flatten) (sz := 3) (e := 46) (cs' := [.val (.int .i64 1), .val (.int .i64 0), .val (.slice none 0 0), .val (.int .i64 2), .val (.int .i64 1), .slc 20 0 1 1]) (by kernel_rfl) rfl rfl rfl rfl rfl rfl .plain <| K.build rfl rfl (by exact rfl) (by exact nl3 rfl rfl rfl rfl) .plain ?_; refine K.alloc rfl .plain ?_; refine K.storeAll rfl rfl rfl rfl rfl rfl .plain ?_; refine RunK.nil <| LWP.seq ?_)
  refine LWP.le (σ' := ⟨[(2, Lp 2)], [(22, some ⟨46, [.val (.int .i64 1), .val (.int .i64 0), .val (.slice none 0 0), .val (.int .i64 2), .val (.int .i64 1)] ++ .slc 20 0 1 1 :: [], false⟩), (20, some ⟨68, [Value.slice (some ⟨blk, 0, none⟩) 3 cap].map .val, false⟩), (2, some ⟨24, [.val (.int .i64 1), .val (.int .i64 2), .slc 22 0 2 3], false⟩)], Y⟩) (Le.of (by exact ⟨rfl, trivial⟩) (by exact ⟨rfl, rfl, rfl, trivial⟩) (by exact rfl) (by exact rfl) (by repeat' (first | refine all_cons_true ?_ ?_ | rfl | exact bytes_inUse | exact vals_inUse | exact mid_inUse rfl))) ?_
  refine LWP.freezeCell rfl rfl rfl rfl rfl rfl ?_
  intro b2 c2 arr2 fr2 hn2 _ _ _ hsp2
  have hin2 : CodesIn (withBlock Y b2 (.cells arr2 68 fr2)) (some ⟨b2, 0, none⟩) [code0] := by
    obtain ⟨sp, e⟩ := hsp2
    exact forms_block (withBlock_at _ _ _) e (FormsH.nil.push ⟨_, _, rfl, hin1.mono (withBlock_old hn2)⟩)
  replace hTab : XTab (withBlock Y b2 (.cells arr2 68 fr2)) := xtab_mono (withBlock_old hn2) hTab
  generalize withBlock Y b2 (.cells arr2 68 fr2) = Y2 at *
  refine LWP.le (σ' := ⟨[(2, Lp 2)], [(2, some ⟨24, [.val (.int .i64 1), .val (.int .i64 2)] ++ .slc 22 0 2 3 :: [], false⟩), (22, some ⟨46, (rwZ prog0.rs [.slice none 0 0, .slice (some ⟨b2, 0, none⟩) 1 c2]).map .val, false⟩)], Y2⟩) (Le.of (by exact ⟨rfl, trivial⟩) (by exact ⟨rfl, rfl, trivial⟩) (by exact rfl) (by exact rfl) (by repeat' (first | refine all_cons_true ?_ ?_ | rfl | exact bytes_inUse | exact vals_inUse | exact mid_inUse rfl))) ?_
  refine LWP.freezeCell rfl rfl rfl rfl rfl rfl ?_
  intro b3 c3 arr3 fr3 hn3 _ _ _ hsp3
  have hin : RulesIn (withBlock Y2 b3 (.cells arr3 46 fr3)) (some ⟨b3, 0, none⟩) prog0.rs := by
    obtain ⟨sp, e⟩ := hsp3
    exact rules_block (withBlock_at _ _ _) e ((RulesH.nil.push CodesIn.nilIn).push ⟨_, _, rfl, hin2.mono (withBlock_old hn3)⟩) smallR0
  replace hTab : XTab (withBlock Y2 b3 (.cells arr3 46 fr3)) := xtab_mono (withBlock_old hn3) hTab
  generalize withBlock Y2 b3 (.cells arr3 46 fr3) = Z at *
  refine LWP.le (σ' := ⟨[(2, Lp 2)], [v3B 24 2 1 2 (some ⟨b3, 0, none⟩) 2 c3], Z⟩) (Le.of (by exact ⟨rfl, trivial⟩) (by exact ⟨rfl, trivial⟩) (by exact rfl) (by exact rfl) (by repeat' (first | refine all_cons_true ?_ ?_ | rfl | exact bytes_inUse | exact vals_inUse | exact mid_inUse rfl))) ?_
  have hE : PSpec Tryz.prog Z 11 [LPg 1 2 (some ⟨b3, 0, none⟩) 2 c3] (.tup [Ss (encPT prog0), Sn .i64 (chkP prog0)]) := hEncode Z prog0 _ c3 hin ok0
  rw [chk0] at hE
  have hD : MSpec Tryz.prog Z 14 [Ls (encPT prog0)] [] (.tup [.agg [.val (.int .i64 1), .val (.int .i64 2), .slc 1000001 0 2 3], Sn .i64 0]) [rlB 46 1000001 prog0.rs] := hDecode_ok Z _ len0.2 dec0
  have hD7 := hDecode_no Z [77] (by decide) (decP_short (by decide))
  have hF : MSpec Tryz.prog Z 18 [LPg 1 2 (some ⟨b3, 0, none⟩) 2 c3, Ln .i64 2] [] (.tup [SRs ⟨2, 1, [code0]⟩ 1000001, Sb true]) [cdB 1000001 [code0]] := hFind_yes Z prog0 _ c3 hin ok0 2 find0
  have hL : MSpec Tryz.prog Z 21 [LPg 1 2 (some ⟨b3, 0, none⟩) 2 c3] [] (.sv (.one (.slc 1000001 0 2 1))) [txB 1000001 [line1, line2] true] := by
    have h := hLines Z prog0 (some ⟨b3, 0, none⟩) c3 hin ok0 hTab chk0
    rw [lines0] at h
    exact h
  have hR : MSpec Tryz.prog Z 20 [LPg 1 2 (some ⟨b3, 0, none⟩) 2 c3, Ln .i64 1] [] (.sv (.one (.slc 1000001 0 1 1))) [(1000001, some ⟨3, (int1 [2]).map .val, true⟩)] := by
    have h := hFrom Z prog0 (some ⟨b3, 0, none⟩) c3 hin ok0 1
    rw [from0] at h
    exact h
  have hS := fun S e cc hk => hsame_lent Z (S := S) (p := prog0) (q := prog0) (cap := c3) (k := 601) (e := e) (cc := cc) (t := 46) (r := true) hin ok0 (decide_eq_true rfl) hk
  have hC : PSpec Tryz.prog Z 12 [LPg 0 0 none 0 0] (Ln .i64 1) := hCheck Z ⟨0, 0, []⟩ none 0 RulesIn.nil ⟨by decide, fun r hr => by cases hr⟩
  have hlen : (⟨(encPT prog0).toArray⟩ : ByteArray).size = (encPT prog0).length := rfl
  have hl20 := len0.1
  generalize encPT prog0 = bytes at *
  (refine rgN <| K.loadAll rfl rfl rfl .plain ?_; refine kca rfl rfl hE <| kmv rfl <| kex rfl rfl <| kex rfl rfl <| kas rfl <| kas rfl <| RunK.nil <| LWP.seq <| rgN <| kmv rfl <| K.callMp [(1000001, 601)] (.tup [.agg [.val (.int .i64 1), .val (.int .i64 2), .slc 601 0 2 3], Sn .i64 0]) [rlB 46 601 prog0.rs] (hD) rfl rfl (by exact trivial) rfl rfl rfl rfl rfl (by exact (.box rfl rfl .nil)) .plain <| kmv rfl <| kex rfl rfl <| kex rfl rfl ?_; refine K.alloc rfl .plain ?_; refine K.storeAll rfl rfl rfl rfl rfl rfl .plain ?_; refine kas rfl <| RunK.nil <| LWP.seq <| rgN <| kca rfl rfl hD7 <| kmv rfl <| kex rfl rfl <| kex rfl rfl <| K.alloc rfl .plain ?_; refine K.storeAll rfl rfl rfl rfl rfl rfl .plain ?_; refine kas rfl <| RunK.nil <| LWP.seq <| rgN <| K.loadAll rfl rfl rfl .plain ?_; refine K.callMp [(1000001, 602)] (.sv (.one (.slc 602 0 2 1))) [txB 602 [line1, line2] true] (hL) rfl rfl (by exact trivial) rfl rfl rfl rfl rfl (by exact (.box rfl rfl .nil)) .plain <| kas rfl <| RunK.nil <| LWP.seq <| rgN <| K.loadAll rfl rfl rfl .plain ?_; refine K.callMp [(1000001, 604)] (.tup [SRs ⟨2, 1, [code0]⟩ 604, Sb true]) [cdB 604 [code0]] (hF) rfl rfl (by repeat' (first | exact trivial | refine And.intro ⟨_, rfl, ?_⟩ ?_ | refine And.intro ⟨_, rfl⟩ ?_ | rfl | exact Box.ren_bytes _ _ _ _ | exact Box.ren_vals _ _ _ _ | exact Box.ren_mid rfl)) (by repeat' (first | refine all_cons_true ?_ ?_ | rfl | exact bytes_inUse | exact vals_inUse | exact mid_inUse rfl)) rfl rfl rfl rfl (by repeat' (first | exact .nil | refine .box rfl ?_ ?_ | refine .dead rfl ?_ | rfl | exact Box.ren_bytes _ _ _ _ | exact Box.ren_vals _ _ _ _ | exact Box.ren_mid rfl)) .plain ?_; refine kmv rfl <| kex rfl rfl <| kex rfl rfl <| K.alloc rfl .plain ?_; refine K.storeAll rfl rfl rfl rfl rfl rfl .plain ?_; refine kas rfl <| RunK.nil <| LWP.seq <| rgN <| K.loadAll rfl rfl rfl .plain ?_; refine K.callMp [(1000001, 603)] (.sv (.one (.slc 603 0 1 1))) [(603, some ⟨3, (int1 [2]).map .val, true⟩)] (hR) rfl rfl (by exact trivial) rfl rfl rfl rfl rfl (by exact (.box rfl rfl .nil)) .plain <| kas rfl <| RunK.nil <| LWP.seq ?_)
  refine LWP.le (σ' := ⟨[(2, Lp 2), (3, Ls bytes), (4, Ln .i64 0), (5, Lp 5), (6, Ln .i64 0), (8, Ln .i64 4), (9, .sv (.one (.slc 602 0 2 1))), (10, Lp 10), (11, Lb true), (12, .sv (.one (.slc 603 0 1 1)))], [v3B 24 2 1 2 (some ⟨b3, 0, none⟩) 2 c3, (5, some ⟨24, [.val (.int .i64 1), .val (.int .i64 2), .slc 601 0 2 3], false⟩), rlB 46 601 prog0.rs, txB 602 [line1, line2] true, (10, some ⟨46, [.val (.int .i64 2), .val (.int .i64 1), .slc 604 0 1 1], false⟩), (603, some ⟨3, (int1 [2]).map .val, true⟩), cdB 604 [code0]], Z⟩) (Le.of (by exact ⟨rfl, rfl, rfl, rfl, rfl, rfl, rfl, rfl, rfl, rfl, trivial⟩) (by exact ⟨rfl, rfl, rfl, rfl, rfl, rfl, rfl, trivial⟩) (by exact rfl) (by exact rfl) (by repeat' (first | refine all_cons_true ?_ ?_ | rfl | exact bytes_inUse | exact vals_inUse | exact mid_inUse rfl))) ?_
  ((refine rgN <| kmv rfl <| keq rfl rfl (r := true) rfl <| kmv rfl <| gmv rfl rfl rfl <| K.lenStr rfl (.taken rfl rfl) ?_; refine K.gtr rfl rfl (decide_eq_true (by rw [hlen]; omega)) (.taken rfl rfl) ?_; refine kpt rfl rfl <| kmv rfl <| gmv rfl rfl rfl <| K.eql rfl rfl (r := true) rfl (.taken rfl rfl) ?_; refine kpt rfl rfl <| kmv rfl <| K.loadAll rfl rfl rfl (.taken rfl rfl) ?_; refine K.loadAll rfl rfl rfl (.taken rfl rfl) ?_; refine K.callL [601] rfl rfl rfl (hS _ _ _ rfl) (.taken rfl rfl) ?_; refine kpt rfl rfl <| kmv rfl <| gmv rfl rfl rfl <| K.eql rfl rfl (r := true) rfl (.taken rfl rfl) ?_; refine kpt rfl rfl <| kmv rfl <| gmv rfl rfl rfl <| K.lenSlc rfl SliceT.h rfl (.taken rfl rfl) ?_; refine K.eql rfl rfl (r := true) rfl (.taken rfl rfl) ?_; refine kpt rfl rfl <| kmv rfl <| gmv rfl rfl rfl <| K.indexSlc rfl rfl (by decide) rfl (.taken rfl rfl) ?_; refine K.loadOne rfl rfl rfl (.taken rfl rfl) ?_; refine K.strEq rfl rfl (strs_eq (r := true) (by decide)) (.taken rfl rfl) ?_); (refine kpt rfl rfl <| kmv rfl <| gmv rfl rfl rfl <| K.indexSlc rfl rfl (by decide) rfl (.taken rfl rfl) ?_; refine K.loadOne rfl rfl rfl (.taken rfl rfl) ?_; refine K.strEq rfl rfl (strs_eq (r := true) (by decide)) (.taken rfl rfl) ?_; refine kpt rfl rfl <| kmv rfl <| gmv rfl rfl rfl <| kpt rfl rfl <| kmv rfl <| K.fieldAddr rfl rfl (.taken rfl rfl) ?_; refine K.loadOne rfl rfl rfl (.taken rfl rfl) ?_; refine K.eql rfl rfl (r := true) rfl (.taken rfl rfl) ?_; refine kpt rfl rfl <| kmv rfl <| gmv rfl rfl rfl <| K.lenSlc rfl SliceT.h rfl (.taken rfl rfl) ?_; refine K.eql rfl rfl (r := true) rfl (.taken rfl rfl) ?_; refine kpt rfl rfl <| kmv rfl <| gmv rfl rfl rfl <| K.indexSlc rfl rfl (by decide) rfl (.taken rfl rfl) ?_; refine K.loadOne rfl rfl rfl (.taken rfl rfl) ?_; refine K.eql rfl rfl (r := true) rfl (.taken rfl rfl) ?_; refine kpt rfl rfl <| kmv rfl <| K.build rfl rfl (by exact rfl) (by exact nl3 rfl rfl rfl rfl) (.taken rfl rfl) ?_); (refine gca rfl rfl hC rfl rfl <| K.eql rfl rfl (r := true) rfl (.taken rfl rfl) ?_; refine kpt rfl rfl <| kas rfl <| RunK.nil <| LWP.ret ?_))
  exact ⟨[_], ⟨rfl, trivial⟩, rfl⟩
end Go.Proofs.YtamplgnbbanamaaGreatDoor
end
section
namespace Go.Proofs.YtamplgnbbanamaaGreatDoor
open Go Go.Lg Go.Lg.Fml Go.Lg.Fld Go.Lg.Arith
set_option maxRecDepth 100000
def IntsI (X : Nat → Option Obj) (ad : Option Addr) (l : List Int) : Prop := Go.Lg.RowsIn X ad 1 (l.map fun n => [.int .i64 n])
theorem ok_of_grt {p : Pg} (h : grtP p.rs = false) : pgOk p := grtP_false h
variable (X : Nat → Option Obj)
end Go.Proofs.YtamplgnbbanamaaGreatDoor
end
