/- A piece of a proof over this program: contracts of its functions, and a logic to prove them by. -/
import Derived.Test.YteappfihapeakaaP7
section
-- SchemaFinds
namespace Go.Proofs.Yteappfihapeakaa
open Go Go.Lg Go.Lg.Fld
set_option maxRecDepth 100000
variable (X : Nat → Option Obj)
theorem lent_comps {S : Nat → Option (Option Box)} {Y : Nat → Option Obj} {k n : Nat} {cs : List Cp} {cells : List Value} {el : TypeId} {row : Bool} {u : Value} (hY : ∀ b o, X b = some o → Y b = some o) (hl : cells.length = cs.length) (hb : ∀ c ∈ cs, -9223372036854775808 ≤ c.id ∧ c.id < 9223372036854775808)
    (hf : ∀ (i : Nat) (c : Cp) (v : Value), cs[i]? = some c → cells[i]? = some v → ∃ fad fcap, v = .slice fad c.fs.length fcap ∧ FieldsIn X fad c.fs) (hk : S k = some (some ⟨el, (rowsZ cs cells).map .val, row⟩)) (hu : LentC S Y (.slc k 0 n 3) u) :
    ∃ (blk cap : Nat), u = .slice (some ⟨blk, 0, none⟩) n cap ∧ CompsIn Y (some ⟨blk, 0, none⟩) cs := by
  obtain ⟨b, blk, cap2, m, hk', rfl, hc, hfit, hB⟩ := hu
  rw [hk] at hk'
  simp only [Option.some.injEq] at hk'
  subst hk'
  obtain ⟨arr, fr, us', sp, hYb, hsz, harr, hv⟩ := hB
  have := hv _ rfl
  subst this
  exact ⟨blk, cap2, rfl, comps_rows hYb harr hl hb fun i c v hc hv => by
    obtain ⟨fad, fcap, e, hF⟩ := hf i c v hc hv
    exact ⟨fad, fcap, e, hF.mono hY⟩⟩
/-- Check of components in a box -/
theorem check_lent {S : Nat → Option (Option Box)} {ver : Int} {k : Nat} {cs : List Cp} {cells : List Value} {el : TypeId} {row : Bool} {e : Int} (hl : cells.length = cs.length) (hb : ∀ c ∈ cs, -9223372036854775808 ≤ c.id ∧ c.id < 9223372036854775808)
    (hf : ∀ (i : Nat) (c : Cp) (v : Value), cs[i]? = some c → cells[i]? = some v → ∃ fad fcap, v = .slice fad c.fs.length fcap ∧ FieldsIn X fad c.fs) (hS : SmallC cs) (hk : S k = some (some ⟨el, (rowsZ cs cells).map .val, row⟩)) (he : chkE ⟨ver, cs⟩ = e) :
    ∀ (Y : Nat → Option Obj) (us : List Value), (∀ b o, X b = some o → Y b = some o) → LentLs S Y [.sv (.agg [.val (.int .i64 ver), .slc k 0 cs.length 3])] us → PSpec Try.prog Y 9 (us.map toLV) (Ln .i64 e) := by
  intro Y us hY hL
  obtain ⟨u1, us1, rfl, ⟨av, rfl, a1, av1, rfl, h1, a2, av2, rfl, h2, rfl⟩, rfl⟩ := hL
  have h1 : a1 = .int .i64 ver := h1
  subst h1
  obtain ⟨blk, cap, rfl, hin⟩ := lent_comps X hY hl hb hf hk h2
  exact pCheck Y ⟨ver, cs⟩ (some ⟨blk, 0, none⟩) cap hin hS e he
/-- Same of components in a box and what stays -/
theorem same_lent_box {S : Nat → Option (Option Box)} {ver v2 : Int} {ad : Option Addr} {cap k : Nat} {cs ds : List Cp} {cells : List Value} {el : TypeId} {row : Bool} {r : Bool} (hl : cells.length = cs.length) (hb : ∀ c ∈ cs, -9223372036854775808 ≤ c.id ∧ c.id < 9223372036854775808)
    (hf : ∀ (i : Nat) (c : Cp) (v : Value), cs[i]? = some c → cells[i]? = some v → ∃ fad fcap, v = .slice fad c.fs.length fcap ∧ FieldsIn X fad c.fs) (hS : SmallC cs) (hk : S k = some (some ⟨el, (rowsZ cs cells).map .val, row⟩)) (hin2 : CompsIn X ad ds) (hS2 : SmallC ds) (he : decide ((⟨ver, cs⟩ : Sc) = ⟨v2, ds⟩) = r) :
    ∀ (Y : Nat → Option Obj) (us : List Value), (∀ b o, X b = some o → Y b = some o) → LentLs S Y [.sv (.agg [.val (.int .i64 ver), .slc k 0 cs.length 3]), Sx v2 ad ds.length cap] us → PSpec Try.prog Y 22 (us.map toLV) (Lb r) := by
  intro Y us hY hL
  obtain ⟨u1, us1, rfl, ⟨av, rfl, a1, av1, rfl, h1, a2, av2, rfl, h2, rfl⟩, u2, us2, rfl, ⟨bv, rfl, b1, bv1, rfl, h3, b2, bv2, rfl, h4, rfl⟩, rfl⟩ := hL
  have h1 : a1 = .int .i64 ver := h1
  have h3 : b1 = .int .i64 v2 := h3
  have h4 : b2 = .slice ad ds.length cap := h4
  subst h1 h3 h4
  obtain ⟨blk, cap', rfl, hin⟩ := lent_comps X hY hl hb hf hk h2
  exact pSame Y ⟨ver, cs⟩ ⟨v2, ds⟩ (some ⟨blk, 0, none⟩) ad cap' cap hin (hin2.mono hY) hS r he
abbrev sfSt (ver id at_ : Int) (ad : Option Addr) (n cap : Nat) (extra : List (Nat × LV)) (bx : List (Nat × Option Box)) (Y : Nat → Option Obj) : St := ⟨(1, Ln .i64 id) :: (2, Ln .i64 at_) :: (3, Lp 3) :: extra, sxB 3 ver ad n cap :: bx, Y⟩
set_option maxHeartbeats 12800000 in
theorem SchemaFinds_spec (s : Sc) (ad : Option Addr) (cap : Nat) (id at_ : Int) (hin : CompsIn X ad s.cs) (hcap : s.cs.length ≤ cap) :
    PSpec Try.prog X 5 [Sx s.ver ad s.cs.length cap, Ln .i64 id, Ln .i64 at_] (Lb true) := by
  obtain ⟨ver, cs⟩ := s
  simp only at hin hcap ⊢
  have hW := awake7_spec X
  have hG := great7_spec X ver ad cap cs hin (greatB cs) rfl
  refine PSpec.intro Try.func5 rfl (by kernel_rfl) rfl rfl ?_
  intro C
  cases hg : greatB cs with
  | true =>
    rw [hg] at hG
    (refine LWP.seq <| LWP.region (by kernel_rfl) <| K.box rfl rfl rfl .plain <| kas rfl <| RunK.nil <| LWP.seq <| LWP.seq <| LWP.region (by kernel_rfl) <| kca rfl rfl (hW) <| K.not rfl rfl .plain <| RunK.nil <| LWP.condF rfl ?_; refine LWP.skip ?_; refine LWP.seq <| LWP.seq <| LWP.region (by kernel_rfl) <| K.loadAll rfl rfl rfl .plain ?_; refine kca rfl rfl (hG) <| kmv rfl <| RunK.passed rfl rfl rfl <| RunK.passed rfl rfl rfl <| RunK.passed rfl rfl rfl <| kpt rfl rfl <| RunK.nil <| LWP.condT rfl ?_; refine LWP.seq <| LWP.region (by kernel_rfl) <| kas rfl <| RunK.nil <| LWP.ret ?_)
    exact ⟨[_], ⟨rfl, trivial⟩, rfl⟩
  | false =>
  rw [hg] at hG
  have hS := greatB_small hg
  have hn30 := hS.1
  have c1 := pCheck X ⟨ver, cs⟩ ad cap hin hS (chkE ⟨ver, cs⟩) rfl
  by_cases hchk : chkE ⟨ver, cs⟩ = 0
  · rw [hchk] at c1
    unfold chkE at hchk
    simp only at hchk c1
    by_cases hver : ver < 1 ∨ 1073741824 < ver
    · rw [if_pos hver] at hchk; cases hchk
    rw [if_neg hver] at hchk
    have hgood := good_of hchk
    (refine LWP.seq <| LWP.region (by kernel_rfl) <| K.box rfl rfl rfl .plain <| kas rfl <| RunK.nil <| LWP.seq <| LWP.seq <| LWP.region (by kernel_rfl) <| kca rfl rfl (hW) <| K.not rfl rfl .plain <| RunK.nil <| LWP.condF rfl ?_; refine LWP.skip ?_; refine LWP.seq <| LWP.seq <| LWP.region (by kernel_rfl) <| K.loadAll rfl rfl rfl .plain ?_; refine kca rfl rfl (hG) <| kmv rfl <| K.loadAll rfl rfl rfl (.taken rfl rfl) ?_; refine gca rfl rfl c1 rfl rfl <| K.neq rfl rfl ((bne_eq_false_iff_eq.2 (by omega))) (.taken rfl rfl) ?_; refine kpf rfl rfl <| RunK.nil <| LWP.condF rfl ?_; refine LWP.skip ?_; refine LWP.seq <| LWP.region (by kernel_rfl) <| kas rfl <| RunK.nil <| LWP.seq <| LWP.seq <| LWP.region (by kernel_rfl) <| kas rfl <| RunK.nil <| LWP.block ?_)
    refine LWP.loop (fun m σ => ∃ i : Nat, i ≤ cs.length ∧ m = cs.length - i ∧ σ = sfSt ver id at_ ad cs.length cap [(7, Lb ((cs.take i).any fun c => c.id == id)), (8, Ln .i64 (i : Nat))] [] X) cs.length
      ⟨_, Le.of (by exact ⟨rfl, rfl, rfl, rfl, rfl, trivial⟩) (by exact ⟨rfl, trivial⟩) (by exact rfl) (by exact rfl) (by repeat' (first | refine all_cons_true ?_ ?_ | rfl | exact bytes_inUse | exact vals_inUse | exact mid_inUse rfl)), 0, by omega, by omega, rfl⟩ ?_
    rintro m σ ⟨i, hi, rfl, rfl⟩
    by_cases hlt : i < cs.length
    · obtain ⟨c, hc⟩ : ∃ c, cs[i]? = some c := ⟨_, List.getElem?_eq_getElem hlt⟩
      obtain ⟨blk, off, arr, el, fr, fad, fcap, rfl, hX, hsz, hcs, _, _, _, hF⟩ := hin.get hc
      have hio : off + Int.toNat (i : Int) * 3 = off + i * 3 := by simp
      obtain ⟨hfb, hnb, hfn⟩ := hS.2 c (List.mem_of_getElem? hc)
      obtain ⟨g1, g2, g3, g4, g5⟩ := hgood.one i c hc
      have hany : (cs.take (i + 1)).any (fun c => c.id == id) = ((cs.take i).any (fun c => c.id == id) || (c.id == id)) := by rw [take_snoc hc, List.any_append]; simp
      (refine LWP.seq <| LWP.seq <| LWP.region (by kernel_rfl) <| kmv rfl <| kfa rfl rfl ?_; refine kl1 rfl rfl rfl <| K.lenX rfl SliceT.h rfl .plain ?_; refine klt rfl rfl (decide_eq_true (by omega)) <| RunK.nil <| LWP.condT rfl ?_; refine LWP.skip ?_; refine LWP.seq <| LWP.block <| LWP.seq <| LWP.region (by kernel_rfl) <| kfa rfl rfl ?_; refine kl1 rfl rfl rfl <| kmv rfl <| K.indexX rfl rfl SliceT.h (by omega) hio .plain <| K.loadXagg rfl hX (by kernel_rfl) hsz hcs .plain <| K.alloc rfl .plain ?_; refine K.storeAll rfl rfl rfl rfl rfl rfl .plain ?_; refine RunK.nil <| LWP.seq ?_)
      refine LWP.meet0 (fun σ => σ = sfSt ver id at_ (some ⟨blk, off, none⟩) cs.length cap [(7, Lb ((cs.take (i + 1)).any fun c => c.id == id)), (8, Ln .i64 (i : Nat)), (9, Lp 9)] [cpB 9 c fad fcap] X) ?_ ?_
      · rw [hany]
        generalize (cs.take i).any (fun c => c.id == id) = h at *
        cases h with
        | true =>
          (refine LWP.region (by kernel_rfl) <| kmv rfl <| kmv rfl <| RunK.passed rfl rfl rfl <| RunK.passed rfl rfl rfl <| RunK.passed rfl rfl rfl <| RunK.passed rfl rfl rfl <| kpt rfl rfl <| kas rfl <| RunK.nil ?_)
          exact ⟨_, Le.of (by exact ⟨rfl, rfl, rfl, rfl, rfl, rfl, trivial⟩) (by exact ⟨rfl, rfl, trivial⟩) (by exact rfl) (by exact rfl) (by repeat' (first | refine all_cons_true ?_ ?_ | rfl | exact bytes_inUse | exact vals_inUse | exact mid_inUse rfl)), rfl⟩
        | false =>
          (refine LWP.region (by kernel_rfl) <| kmv rfl <| kmv rfl <| K.fieldAddr rfl rfl (.taken rfl rfl) ?_; refine K.loadOne rfl rfl rfl (.taken rfl rfl) ?_; refine gmv rfl rfl rfl <| K.eql rfl rfl rfl (.taken rfl rfl) ?_; refine kpf rfl rfl <| kas rfl <| RunK.nil ?_)
          exact ⟨_, Le.of (by exact ⟨rfl, rfl, rfl, rfl, rfl, rfl, trivial⟩) (by exact ⟨rfl, rfl, trivial⟩) (by exact rfl) (by exact rfl) (by repeat' (first | refine all_cons_true ?_ ?_ | rfl | exact bytes_inUse | exact vals_inUse | exact mid_inUse rfl)), rfl⟩
      rintro σ rfl
      generalize hh : (cs.take (i + 1)).any (fun c => c.id == id) = h at *
      have hb1 : cs.length < 4611686018427387904 := by omega
      have hb2 : ∀ c ∈ cs, c.fs.length ≤ 65536 := fun c hc => by have := (hS.2 c hc).1; omega
      refine LWP.seq ?_
      refine LWP.meetL (fun σ => ∃ (X1 : Nat → Option Obj) (fad1 : Option Addr) (fcap1 : Nat), (∀ b o, X b = some o → X1 b = some o) ∧ FieldsIn X1 fad1 c.fs ∧ σ = ⟨[(1, Ln .i64 id), (2, Ln .i64 at_), (3, Lp 3), (7, Lb h), (8, Ln .i64 (i : Nat)), (9, Lp 9), (10, Lp 10), (11, Lb true)], [cpB 10 c fad1 fcap1, cpB 9 c fad fcap, sxB 3 ver (some ⟨blk, off, none⟩) cs.length cap], X1⟩) ?_ ?_
      · rcases pFind X ver (some ⟨blk, off, none⟩) cap cs c.id hin hb1 hb2 (i := i) (c := c) (fun j y hj hy => beq_eq_false_iff_ne.2 (by have := (hgood.two j i y c hj hy hc).1; omega)) hc rfl with ⟨h0, p1⟩ | p1
        · (refine LWP.region (by kernel_rfl) <| K.loadAll rfl rfl rfl .plain ?_; refine kfa rfl rfl ?_; refine kl1 rfl rfl rfl <| kca rfl rfl p1 <| kmv rfl <| kex rfl rfl <| kex rfl rfl <| K.alloc rfl .plain ?_; refine K.storeAll rfl rfl rfl rfl rfl rfl .plain ?_; refine kas rfl <| RunK.nil ?_)
          exact Leads.here (Le.of (by exact ⟨rfl, rfl, rfl, rfl, rfl, rfl, rfl, rfl, trivial⟩) (by exact ⟨rfl, rfl, rfl, trivial⟩) (by exact rfl) (by exact rfl) (by repeat' (first | refine all_cons_true ?_ ?_ | rfl | exact bytes_inUse | exact vals_inUse | exact mid_inUse rfl))) ⟨X, none, 0, fun _ _ h => h, fields_none h0, rfl⟩
        · (refine LWP.region (by kernel_rfl) <| K.loadAll rfl rfl rfl .plain ?_; refine kfa rfl rfl ?_; refine kl1 rfl rfl rfl <| K.callMp [(1000001, 200)] (.tup [SCs c 200, Sb true]) [fdB 200 c.fs] (p1) rfl rfl (by exact trivial) rfl rfl rfl rfl rfl (by exact (.box rfl (Box.ren_vals _ _ _ _) .nil)) .plain <| kmv rfl <| kex rfl rfl <| kex rfl rfl <| K.alloc rfl .plain ?_; refine K.storeAll rfl rfl rfl rfl rfl rfl .plain ?_; refine kas rfl <| RunK.nil ?_)
          refine Leads.le (σ' := ⟨[(1, Ln .i64 id), (2, Ln .i64 at_), (3, Lp 3), (7, Lb h), (8, Ln .i64 (i : Nat)), (9, Lp 9), (10, Lp 10), (11, Lb true)], [(10, some ⟨34, [.val (.int .i64 c.id), .val (.string ⟨c.nm.toArray⟩)] ++ .slc 200 0 c.fs.length 3 :: [], false⟩), (200, some ⟨41, (flV c.fs).map .val, true⟩), cpB 9 c fad fcap, sxB 3 ver (some ⟨blk, off, none⟩) cs.length cap], X⟩) (Le.of (by exact ⟨rfl, rfl, rfl, rfl, rfl, rfl, rfl, rfl, trivial⟩) (by exact ⟨rfl, rfl, rfl, rfl, trivial⟩) (by exact rfl) (by exact rfl) (by repeat' (first | refine all_cons_true ?_ ?_ | rfl | exact bytes_inUse | exact vals_inUse | exact mid_inUse rfl))) ?_
          refine Leads.freezeCell rfl rfl rfl rfl rfl rfl fun b c1 a f hn _ _ _ hsp => ?_
          exact Leads.done ⟨_, some ⟨b, 0, none⟩, c1, withBlock_old hn, (by obtain ⟨sp, e⟩ := hsp; exact fields_block (withBlock_at _ _ _) e hF.small), rfl⟩
      rintro σ ⟨X1, fad1, fcap1, hX1, hF1, rfl⟩
      refine LWP.seq ?_
      refine LWP.meetL (fun σ => ∃ (X2 : Nat → Option Obj) (fad2 : Option Addr) (fcap2 : Nat), (∀ b o, X1 b = some o → X2 b = some o) ∧ FieldsIn X2 fad2 c.fs ∧ σ = ⟨[(1, Ln .i64 id), (2, Ln .i64 at_), (3, Lp 3), (7, Lb h), (8, Ln .i64 (i : Nat)), (9, Lp 9), (10, Lp 10), (11, Lb true), (12, Lp 12), (13, Lb true)], [cpB 12 c fad2 fcap2, cpB 10 c fad1 fcap1, cpB 9 c fad fcap, sxB 3 ver (some ⟨blk, off, none⟩) cs.length cap], X2⟩) ?_ ?_
      · rcases pNamed X1 ver (some ⟨blk, off, none⟩) cap cs c.nm (hin.mono hX1) hb1 hb2 (i := i) (c := c) (fun j y hj hy => beq_eq_false_iff_ne.2 (hgood.two j i y c hj hy hc).2) hc rfl with ⟨h0, p1⟩ | p1
        · (refine LWP.region (by kernel_rfl) <| K.loadAll rfl rfl rfl .plain ?_; refine kfa rfl rfl ?_; refine kl1 rfl rfl rfl <| kca rfl rfl p1 <| kmv rfl <| kex rfl rfl <| kex rfl rfl <| K.alloc rfl .plain ?_; refine K.storeAll rfl rfl rfl rfl rfl rfl .plain ?_; refine kas rfl <| RunK.nil ?_)
          exact Leads.here (Le.of (by exact ⟨rfl, rfl, rfl, rfl, rfl, rfl, rfl, rfl, rfl, rfl, trivial⟩) (by exact ⟨rfl, rfl, rfl, rfl, trivial⟩) (by exact rfl) (by exact rfl) (by repeat' (first | refine all_cons_true ?_ ?_ | rfl | exact bytes_inUse | exact vals_inUse | exact mid_inUse rfl))) ⟨X1, none, 0, fun _ _ h => h, fields_none h0, rfl⟩
        · (refine LWP.region (by kernel_rfl) <| K.loadAll rfl rfl rfl .plain ?_; refine kfa rfl rfl ?_; refine kl1 rfl rfl rfl <| K.callMp [(1000001, 200)] (.tup [SCs c 200, Sb true]) [fdB 200 c.fs] (p1) rfl rfl (by exact trivial) rfl rfl rfl rfl rfl (by exact (.box rfl (Box.ren_vals _ _ _ _) .nil)) .plain <| kmv rfl <| kex rfl rfl <| kex rfl rfl <| K.alloc rfl .plain ?_; refine K.storeAll rfl rfl rfl rfl rfl rfl .plain ?_; refine kas rfl <| RunK.nil ?_)
          refine Leads.le (σ' := ⟨[(1, Ln .i64 id), (2, Ln .i64 at_), (3, Lp 3), (7, Lb h), (8, Ln .i64 (i : Nat)), (9, Lp 9), (10, Lp 10), (11, Lb true), (12, Lp 12), (13, Lb true)], [(12, some ⟨34, [.val (.int .i64 c.id), .val (.string ⟨c.nm.toArray⟩)] ++ .slc 200 0 c.fs.length 3 :: [], false⟩), (200, some ⟨41, (flV c.fs).map .val, true⟩), cpB 10 c fad1 fcap1, cpB 9 c fad fcap, sxB 3 ver (some ⟨blk, off, none⟩) cs.length cap], X1⟩) (Le.of (by exact ⟨rfl, rfl, rfl, rfl, rfl, rfl, rfl, rfl, rfl, rfl, trivial⟩) (by exact ⟨rfl, rfl, rfl, rfl, rfl, trivial⟩) (by exact rfl) (by exact rfl) (by repeat' (first | refine all_cons_true ?_ ?_ | rfl | exact bytes_inUse | exact vals_inUse | exact mid_inUse rfl))) ?_
          refine Leads.freezeCell rfl rfl rfl rfl rfl rfl fun b c1 a f hn _ _ _ hsp => ?_
          exact Leads.done ⟨_, some ⟨b, 0, none⟩, c1, withBlock_old hn, (by obtain ⟨sp, e⟩ := hsp; exact fields_block (withBlock_at _ _ _) e hF.small), rfl⟩
      rintro σ ⟨X2, fad2, fcap2, hX2, hF2, rfl⟩
      have q1 := pSameComp X2 c c fad1 fad fcap1 fcap (hF1.mono hX2) ((hF.mono hX1).mono hX2) (by omega) true (decide_eq_true rfl)
      have q2 := pSameComp X2 c c fad2 fad fcap2 fcap hF2 ((hF.mono hX1).mono hX2) (by omega) true (decide_eq_true rfl)
      have q3 := pIsName X2 c.nm true g3
      (refine LWP.seq <| LWP.seq <| LWP.region (by kernel_rfl) <| kmv rfl <| K.not rfl rfl .plain <| kmv rfl <| gmv rfl rfl rfl <| K.not rfl rfl (.taken rfl rfl) ?_; refine kpf rfl rfl <| kmv rfl <| K.loadAll rfl rfl rfl (.taken rfl rfl) ?_; refine K.loadAll rfl rfl rfl (.taken rfl rfl) ?_; refine gca rfl rfl q1 rfl rfl <| K.not rfl rfl (.taken rfl rfl) ?_; refine kpf rfl rfl <| kmv rfl <| K.loadAll rfl rfl rfl (.taken rfl rfl) ?_; refine K.loadAll rfl rfl rfl (.taken rfl rfl) ?_; refine gca rfl rfl q2 rfl rfl <| K.not rfl rfl (.taken rfl rfl) ?_; refine kpf rfl rfl <| kmv rfl <| K.fieldAddr rfl rfl (.taken rfl rfl) ?_; refine K.loadOne rfl rfl rfl (.taken rfl rfl) ?_; refine gca rfl rfl q3 rfl rfl <| K.not rfl rfl (.taken rfl rfl) ?_; refine kpf rfl rfl <| RunK.nil <| LWP.condF rfl ?_; refine LWP.skip ?_; refine LWP.seq <| LWP.region (by kernel_rfl) <| kas rfl <| RunK.nil <| LWP.block ?_)
      refine LWP.le (σ' := ⟨[(1, Ln .i64 id), (2, Ln .i64 at_), (3, Lp 3), (7, Lb h), (8, Ln .i64 (i : Nat)), (9, Lp 9), (14, Ln .i64 (0 : Nat))], [cpB 9 c fad fcap, sxB 3 ver (some ⟨blk, off, none⟩) cs.length cap], X2⟩) (Le.of (by exact ⟨rfl, rfl, rfl, rfl, rfl, rfl, rfl, trivial⟩) (by exact ⟨rfl, rfl, trivial⟩) (by exact rfl) (by exact rfl) (by repeat' (first | refine all_cons_true ?_ ?_ | rfl | exact bytes_inUse | exact vals_inUse | exact mid_inUse rfl))) (LWP.le (Le.drop fun b o h => hX2 b o (hX1 b o h)) ?_)
      refine LWP.loop (fun m σ => ∃ k : Nat, k ≤ c.fs.length ∧ m = c.fs.length - k ∧ σ = sfSt ver id at_ (some ⟨blk, off, none⟩) cs.length cap [(7, Lb h), (8, Ln .i64 (i : Nat)), (9, Lp 9), (14, Ln .i64 (k : Nat))] [cpB 9 c fad fcap] X) c.fs.length
        ⟨_, Le.of (by exact ⟨rfl, rfl, rfl, rfl, rfl, rfl, rfl, trivial⟩) (by exact ⟨rfl, rfl, trivial⟩) (by exact rfl) (by exact rfl) (by repeat' (first | refine all_cons_true ?_ ?_ | rfl | exact bytes_inUse | exact vals_inUse | exact mid_inUse rfl)), 0, by omega, by omega, rfl⟩ ?_
      rintro m σ ⟨k, hk, rfl, rfl⟩
      by_cases hkl : k < c.fs.length
      · obtain ⟨f, hf⟩ : ∃ f, c.fs[k]? = some f := ⟨_, List.getElem?_eq_getElem hkl⟩
        obtain ⟨fb, fo, farr, fel, ffr, rfl, hFX, hFc⟩ := hF.nm hf
        have hio3 : fo + Int.toNat (k : Int) * 3 = fo + k * 3 := by simp
        have q4 := pField X c (some ⟨fb, fo, none⟩) fcap f.nm hF (by omega) (i := k) (f := f) (fun j y hj hy => beq_eq_false_iff_ne.2 (fields_apart g4 hj hy hf)) hf rfl
        have hne : (((k : Nat) : Int) != ((k : Nat) : Int)) = false := by simp
        (refine LWP.seq <| LWP.seq <| LWP.region (by kernel_rfl) <| kmv rfl <| kfa rfl rfl ?_; refine kl1 rfl rfl rfl <| K.lenX rfl SliceT.h rfl .plain ?_; refine klt rfl rfl (decide_eq_true (by omega)) <| RunK.nil <| LWP.condT rfl ?_; refine LWP.skip ?_; refine LWP.seq <| LWP.block <| LWP.seq <| LWP.draws mixed (by kernel_rfl) <| K.loadAll rfl rfl rfl .plain ?_; refine kfa rfl rfl ?_; refine kl1 rfl rfl rfl <| kmv rfl <| K.indexX rfl rfl SliceT.h (by omega) hio3 .plain <| K.fieldAddrX rfl rfl .plain ?_; refine K.loadX rfl hFX rfl hFc .plain <| kca rfl rfl q4 <| kmv rfl <| kex rfl rfl <| kex rfl rfl <| kas rfl <| kas rfl <| RunK.nil <| And.intro (by kernel_rfl) ?_; refine LWP.seq <| LWP.region (by kernel_rfl) <| kmv rfl <| K.not rfl rfl .plain <| kmv rfl <| gmv rfl rfl rfl <| gmv rfl rfl rfl <| K.neq rfl rfl hne (.taken rfl rfl) ?_; refine kpf rfl rfl <| RunK.nil <| LWP.condF rfl ?_; refine LWP.skip ?_; refine LWP.region (by kernel_rfl) <| kmv rfl <| kad rfl rfl (wrap_i64 (by omega)) <| kas rfl <| RunK.nil ?_)
        exact ⟨_, _, by omega, Le.of (by exact ⟨rfl, rfl, rfl, rfl, rfl, rfl, rfl, trivial⟩) (by exact ⟨rfl, rfl, trivial⟩) (by exact rfl) (by exact rfl) (by repeat' (first | refine all_cons_true ?_ ?_ | rfl | exact bytes_inUse | exact vals_inUse | exact mid_inUse rfl)), k + 1, by omega, rfl, rfl⟩
      · (refine LWP.seq <| LWP.seq <| LWP.region (by kernel_rfl) <| kmv rfl <| kfa rfl rfl ?_; refine kl1 rfl rfl rfl <| K.lenX rfl SliceT.h rfl .plain ?_; refine klt rfl rfl (decide_eq_false (by omega)) <| RunK.nil <| LWP.condF rfl ?_; refine LWP.exit <| LWP.region (by kernel_rfl) <| kmv rfl <| kad rfl rfl (wrap_i64 (by omega)) <| kas rfl <| RunK.nil ?_)
        exact ⟨_, sfSt ver id at_ (some ⟨blk, off, none⟩) cs.length cap [(7, Lb h), (8, Ln .i64 (i + 1 : Nat))] [] X, by omega, Le.of (by exact ⟨rfl, rfl, rfl, rfl, rfl, trivial⟩) (by exact ⟨rfl, trivial⟩) (by exact rfl) (by exact rfl) (by repeat' (first | refine all_cons_true ?_ ?_ | rfl | exact bytes_inUse | exact vals_inUse | exact mid_inUse rfl)), i + 1, by omega, rfl, by rw [hh]⟩
    · have e : i = cs.length := by omega
      subst e
      rw [List.take_length]
      have hb1 : cs.length < 4611686018427387904 := by omega
      have hb2 : ∀ c ∈ cs, c.fs.length ≤ 65536 := fun c hc => by have := (hS.2 c hc).1; omega
      have hfind : (∃ (c : Cp) (fcap : Nat), PSpec Try.prog X 14 [Sx ver ad cs.length cap, Ln .i64 id] (.tup [SCx c none fcap, Sb (cs.any fun c => c.id == id)])) ∨
          ∃ c : Cp, MSpec Try.prog X 14 [Sx ver ad cs.length cap, Ln .i64 id] [] (.tup [SCs c 1000001, Sb (cs.any fun c => c.id == id)]) [fdB 1000001 c.fs] := by
        rcases find_cases cs id with ⟨i, c, hc, he, hpre⟩ | hno
        · rw [any_at hc (by rw [beq_iff_eq]; exact he)]
          rcases pFind X ver ad cap cs id hin hb1 hb2 hpre hc he with ⟨_, p⟩ | p
          · exact .inl ⟨c, 0, p⟩
          · exact .inr ⟨c, p⟩
        · rw [any_no hno]
          exact .inl ⟨⟨0, [], []⟩, 0, pFind_no X ver ad cap cs id hin hb1 hno⟩
      generalize cs.any (fun c => c.id == id) = h at *
      have hne : (h != h) = false := by simp
      have heq : (h == h) = true := by simp
      (refine LWP.seq <| LWP.seq <| LWP.region (by kernel_rfl) <| kmv rfl <| kfa rfl rfl ?_; refine kl1 rfl rfl rfl <| K.lenX rfl SliceT.h rfl .plain ?_; refine klt rfl rfl (decide_eq_false (by omega)) <| RunK.nil <| LWP.condF rfl ?_; refine LWP.exit <| LWP.seq ?_)
      refine LWP.meet0 (fun σ => σ = sfSt ver id at_ ad cs.length cap [(7, Lb h), (18, Lb h)] [] X) ?_ ?_
      · rcases hfind with ⟨c, fcap, p⟩ | ⟨c, p⟩
        · (refine LWP.region (by kernel_rfl) <| K.loadAll rfl rfl rfl .plain ?_; refine kmv rfl <| kca rfl rfl p <| kmv rfl <| kex rfl rfl <| kex rfl rfl <| K.alloc rfl .plain ?_; refine K.storeAll rfl rfl rfl rfl rfl rfl .plain ?_; refine kas rfl <| RunK.nil ?_)
          exact ⟨_, Le.of (by exact ⟨rfl, rfl, rfl, rfl, rfl, trivial⟩) (by exact ⟨rfl, trivial⟩) (by exact rfl) (by exact rfl) (by repeat' (first | refine all_cons_true ?_ ?_ | rfl | exact bytes_inUse | exact vals_inUse | exact mid_inUse rfl)), rfl⟩
        · (refine LWP.region (by kernel_rfl) <| K.loadAll rfl rfl rfl .plain ?_; refine kmv rfl <| K.callMp [(1000001, 200)] (.tup [SCs c 200, Sb h]) [fdB 200 c.fs] (p) rfl rfl (by exact trivial) rfl rfl rfl rfl rfl (by exact (.box rfl (Box.ren_vals _ _ _ _) .nil)) .plain <| kmv rfl <| kex rfl rfl <| kex rfl rfl <| K.alloc rfl .plain ?_; refine K.storeAll rfl rfl rfl rfl rfl rfl .plain ?_; refine kas rfl <| RunK.nil ?_)
          exact ⟨_, Le.of (by exact ⟨rfl, rfl, rfl, rfl, rfl, trivial⟩) (by exact ⟨rfl, trivial⟩) (by exact rfl) (by exact rfl) (by repeat' (first | refine all_cons_true ?_ ?_ | rfl | exact bytes_inUse | exact vals_inUse | exact mid_inUse rfl)), rfl⟩
      rintro σ rfl
      by_cases hn0 : cs.length = 0
      · (refine LWP.seq <| LWP.seq <| LWP.region (by kernel_rfl) <| kmv rfl <| kmv rfl <| K.neqB rfl rfl hne .plain <| kmv rfl <| K.fieldAddr rfl rfl (.taken rfl rfl) ?_; refine K.loadOne rfl rfl rfl (.taken rfl rfl) ?_; refine K.lenX rfl SliceT.h rfl (.taken rfl rfl) ?_; refine K.eql rfl rfl (beq_iff_eq.2 (by omega)) (.taken rfl rfl) ?_; refine kpf rfl rfl <| RunK.nil <| LWP.condT rfl ?_; refine LWP.seq <| LWP.region (by kernel_rfl) <| kmv rfl <| kmv rfl <| K.eqlB rfl rfl heq .plain <| kas rfl <| RunK.nil <| LWP.ret ?_)
        exact ⟨[_], ⟨rfl, trivial⟩, rfl⟩
      · obtain ⟨c0, hc0⟩ : ∃ c0, cs[0]? = some c0 := ⟨_, List.getElem?_eq_getElem (by omega)⟩
        obtain ⟨blk, off, _, _, _, _, _, rfl, _⟩ := hin.get hc0
        have hu : IntKind.u64.wrap at_ = at_ % 18446744073709551616 := IntKind.wrap_u64 at_
        have hu2 : IntKind.u64.wrap ((cs.length : Nat) : Int) = ((cs.length : Nat) : Int) := by rw [IntKind.wrap_u64]; omega
        obtain ⟨U, hU⟩ : ∃ U : Nat, at_ % 18446744073709551616 = (U : Nat) := ⟨(at_ % 18446744073709551616).toNat, by omega⟩
        rw [hU] at hu
        have hrem : ((U : Nat) : Int).tmod ((cs.length : Nat) : Int) = ((U % cs.length : Nat) : Int) := by rw [Int.tmod_eq_emod_of_nonneg (by omega)]; omega
        have hk : U % cs.length < cs.length := Nat.mod_lt _ (by omega)
        generalize U % cs.length = k at *
        have hw : IntKind.i64.wrap ((k : Nat) : Int) = ((k : Nat) : Int) := wrap_i64 (by omega)
        have hadd : IntKind.i64.wrap (((k : Nat) : Int) + 1) = ((k + 1 : Nat) : Int) := by rw [wrap_i64 (by omega)]; omega
        obtain ⟨cells, hcl, hcf, hcc⟩ := comps_cells hin
        have hlen := rowsZ_len hcl
        have hone : ∀ v ∈ cells, v.oneCell' = true := fun v hv => by
          obtain ⟨j, hj⟩ := List.mem_iff_getElem?.1 hv
          obtain ⟨d, hd⟩ : ∃ d, cs[j]? = some d := ⟨_, List.getElem?_eq_getElem (by have := (List.getElem?_eq_some_iff.1 hj).1; omega)⟩
          obtain ⟨_, _, rfl, _⟩ := hcf j d v hd hj
          rfl
        have hone2 := rowsZ_one (cs := cs) hone
        have r1 : ReadsX X (some ⟨blk, off, none⟩) ((rowsZ cs cells).take (k * 3)) := ⟨fun j u hj => by
          rw [List.getElem?_take] at hj
          split at hj
          · obtain ⟨arr, el, fr, h1, h2⟩ := hcc j u hj
            exact ⟨blk, off, arr, el, fr, rfl, h1, h2⟩
          · cases hj⟩
        have r2 : ReadsX X (some ⟨blk, if cap = k + 1 then off else off + (k + 1) * 3, none⟩) ((rowsZ cs cells).drop ((k + 1) * 3)) := ⟨fun j u hj => by
          rw [List.getElem?_drop] at hj
          have hjl := (List.getElem?_eq_some_iff.1 hj).1
          obtain ⟨arr, el, fr, h1, h2⟩ := hcc _ u hj
          refine ⟨blk, _, arr, el, fr, rfl, h1, ?_⟩
          rw [if_neg (by omega), Nat.add_assoc]; exact h2⟩
        have hl1 : ((rowsZ cs cells).take (k * 3)).length = k * 3 := by rw [List.length_take]; omega
        have hl2 : ((rowsZ cs cells).drop ((k + 1) * 3)).length = (cs.length - (k + 1)) * 3 := by rw [List.length_drop]; omega
        have ho1 : ∀ u ∈ (rowsZ cs cells).take (k * 3), u.oneCell' = true := fun u hu => hone2 u (List.mem_of_mem_take hu)
        have ho2 : ∀ u ∈ (rowsZ cs cells).drop ((k + 1) * 3), u.oneCell' = true := fun u hu => hone2 u (List.mem_of_mem_drop hu)
        have hcl1 : (((rowsZ cs cells).take (k * 3)).map CV.val).length = k * 3 := by rw [List.length_map, hl1]
        have hjoin : ((rowsZ cs cells).take (k * 3)).map CV.val ++ ((rowsZ cs cells).drop ((k + 1) * 3)).map CV.val = (rowsZ (lessC cs k) (cells.take k ++ cells.drop (k + 1))).map .val := by
          rw [← List.map_append]
          congr 1
          unfold lessC
          rw [rowsZ_app (by rw [List.length_take, List.length_take, hcl])]
          obtain ⟨d, hd⟩ : ∃ d, cs[k]? = some d := ⟨_, List.getElem?_eq_getElem hk⟩
          obtain ⟨v, hv⟩ : ∃ v, cells[k]? = some v := ⟨_, List.getElem?_eq_getElem (by omega)⟩
          have hs := rowsZ_split hd hv
          have hpl : (rowsZ (cs.take k) (cells.take k)).length = k * 3 := by rw [rowsZ_len (by rw [List.length_take, List.length_take, hcl]), List.length_take, Nat.min_eq_left (by omega)]
          congr 1
          · rw [hs, ← hpl, List.take_left]
          · rw [hs, show (k + 1) * 3 = (rowsZ (cs.take k) (cells.take k)).length + 3 by omega, List.drop_length_add_append]; rfl
        have hll := less_len hk
        have hgl := good_less hgood hk
        have hSl := small_less hS hk
        have hcl3 : (cells.take k ++ cells.drop (k + 1)).length = (lessC cs k).length := by unfold lessC; rw [List.length_append, List.length_append, List.length_take, List.length_drop, List.length_take, List.length_drop, hcl]
        have hbl : ∀ c ∈ lessC cs k, -9223372036854775808 ≤ c.id ∧ c.id < 9223372036854775808 := fun c hc => by
          obtain ⟨j, hj⟩ := List.mem_iff_getElem?.1 hc
          exact hin.small c (List.mem_of_getElem? (less_at hk hj))
        have hfl : ∀ (j : Nat) (c : Cp) (v : Value), (lessC cs k)[j]? = some c → (cells.take k ++ cells.drop (k + 1))[j]? = some v → ∃ fad fcap, v = .slice fad c.fs.length fcap ∧ FieldsIn X fad c.fs := fun j c v hc hv => by
          refine hcf _ c v (less_at hk hc) ?_
          by_cases e : j < k
          · rw [if_pos e]
            rw [List.getElem?_append_left (by rw [List.length_take]; omega), List.getElem?_take, if_pos e] at hv
            exact hv
          · rw [if_neg e]
            rw [List.getElem?_append_right (by rw [List.length_take]; omega), List.length_take, List.getElem?_drop] at hv
            rw [← hv]; congr 1; omega
        have hchk2 : chkE ⟨ver, lessC cs k⟩ = 0 := by
          unfold chkE
          rw [if_neg hver]; exact good_zero hgl
        have hnot : decide ((⟨ver, lessC cs k⟩ : Sc) = ⟨ver, cs⟩) = false := decide_eq_false fun e => by
          have := congrArg (fun s : Sc => s.cs.length) e
          simp only at this
          omega
        have hnl : k + (cs.length - (k + 1)) = (lessC cs k).length := by omega
        (refine LWP.seq <| LWP.seq <| LWP.region (by kernel_rfl) <| kmv rfl <| kmv rfl <| K.neqB rfl rfl hne .plain <| kmv rfl <| K.fieldAddr rfl rfl (.taken rfl rfl) ?_; refine K.loadOne rfl rfl rfl (.taken rfl rfl) ?_; refine K.lenX rfl SliceT.h rfl (.taken rfl rfl) ?_; refine K.eql rfl rfl (beq_eq_false_iff_ne.2 (by omega)) (.taken rfl rfl) ?_; refine kpf rfl rfl <| RunK.nil <| LWP.condF rfl ?_; refine LWP.skip ?_; refine LWP.seq <| LWP.region (by kernel_rfl) <| kmv rfl <| kcv rfl hu ?_; refine kfa rfl rfl ?_; refine kl1 rfl rfl rfl <| K.lenX rfl SliceT.h rfl .plain ?_; refine kcv rfl hu2 ?_; refine K.rem rfl rfl (by omega) hrem .plain <| kcv rfl hw ?_; refine kas rfl <| RunK.nil <| LWP.seq ?_)
        refine LWP.le (σ' := ⟨[(3, Lp 3), (19, Ln .i64 (k : Nat))], [sxB 3 ver (some ⟨blk, off, none⟩) cs.length cap], X⟩) (Le.of (by exact ⟨rfl, rfl, trivial⟩) (by exact ⟨rfl, trivial⟩) (by exact rfl) (by exact rfl) (by repeat' (first | refine all_cons_true ?_ ?_ | rfl | exact bytes_inUse | exact vals_inUse | exact mid_inUse rfl))) ?_
        (refine LWP.draws mixed (by kernel_rfl) <| kfa rfl rfl ?_; refine kl1 rfl rfl rfl <| K.buildSlc (zs := []) (sz := 3) (e := 34) (by kernel_rfl) rfl rfl rfl rfl rfl rfl .plain <| kfa rfl rfl ?_; refine kl1 rfl rfl rfl <| kmv rfl <| K.cutX (h := k) rfl rfl SliceT.h (by omega) hcap .plain ?_; refine K.appendX (by_ := 48) (e2 := 34) (news := (rowsZ cs cells).take (k * 3)) (nl := k) (nc := ((rowsZ cs cells).take (k * 3)).map .val) rfl rfl rfl rfl r1 hl1 ho1 (by kernel_rfl) (by kernel_rfl) (by omega) (by omega) rfl (by omega) rfl .plain ?_; refine kfa rfl rfl ?_; refine kl1 rfl rfl rfl <| kmv rfl <| kad rfl rfl hadd <| K.cutLoX (l := k + 1) rfl rfl SliceT.h (by omega) rfl rfl rfl .plain ?_; refine K.appendX (by_ := 48) (e2 := 34) (news := (rowsZ cs cells).drop ((k + 1) * 3)) (nl := (lessC cs k).length) (nc := (rowsZ (lessC cs k) (cells.take k ++ cells.drop (k + 1))).map .val) rfl rfl hcl1 rfl r2 hl2 ho2 (by kernel_rfl) (by kernel_rfl) (by omega) (by omega) rfl hnl hjoin .plain ?_; refine K.build rfl rfl (by exact rfl) (by exact nl2 rfl rfl rfl) .plain ?_; refine K.alloc rfl .plain ?_; refine K.storeAll rfl rfl rfl rfl rfl rfl .plain ?_; refine RunK.nil <| And.intro (by kernel_rfl) ?_; refine LWP.seq ?_)
        refine LWP.le (σ' := ⟨[(3, Lp 3), (20, Lp 20)], [sxB 3 ver (some ⟨blk, off, none⟩) cs.length cap, (20, some ⟨24, [.val (.int .i64 ver), .slc 151 0 (lessC cs k).length 3], false⟩), (151, some ⟨34, (rowsZ (lessC cs k) (cells.take k ++ cells.drop (k + 1))).map .val, true⟩)], X⟩) (Le.of (by exact ⟨rfl, rfl, trivial⟩) (by exact ⟨rfl, rfl, rfl, trivial⟩) (by exact rfl) (by exact rfl) (by repeat' (first | refine all_cons_true ?_ ?_ | rfl | exact bytes_inUse | exact vals_inUse | exact mid_inUse rfl))) ?_
        generalize cells.take k ++ cells.drop (k + 1) = cells2 at *
        generalize lessC cs k = ls at *
        (refine LWP.region (by kernel_rfl) <| K.loadAll rfl rfl rfl .plain ?_; refine K.callL [151] rfl rfl rfl (check_lent X hcl3 hbl hfl hSl rfl hchk2) .plain ?_; refine keq rfl rfl (beq_iff_eq.2 (by omega)) <| kmv rfl <| K.loadAll rfl rfl rfl (.taken rfl rfl) ?_; refine K.loadAll rfl rfl rfl (.taken rfl rfl) ?_; refine K.callL [151] rfl rfl rfl (same_lent_box X hcl3 hbl hfl hSl rfl hin hS hnot) (.taken rfl rfl) ?_; refine K.not rfl rfl (.taken rfl rfl) ?_; refine kpt rfl rfl <| kas rfl <| RunK.nil <| LWP.ret ?_)
        exact ⟨[_], ⟨rfl, trivial⟩, rfl⟩
  · have hne : (chkE ⟨ver, cs⟩ != 0) = true := by rw [bne_iff_ne]; exact hchk
    simp only at c1
    generalize chkE ⟨ver, cs⟩ = ce at *
    (refine LWP.seq <| LWP.region (by kernel_rfl) <| K.box rfl rfl rfl .plain <| kas rfl <| RunK.nil <| LWP.seq <| LWP.seq <| LWP.region (by kernel_rfl) <| kca rfl rfl (hW) <| K.not rfl rfl .plain <| RunK.nil <| LWP.condF rfl ?_; refine LWP.skip ?_; refine LWP.seq <| LWP.seq <| LWP.region (by kernel_rfl) <| K.loadAll rfl rfl rfl .plain ?_; refine kca rfl rfl (hG) <| kmv rfl <| K.loadAll rfl rfl rfl (.taken rfl rfl) ?_; refine gca rfl rfl c1 rfl rfl <| K.neq rfl rfl hne (.taken rfl rfl) ?_; refine kpf rfl rfl <| RunK.nil <| LWP.condT rfl ?_; refine LWP.seq <| LWP.region (by kernel_rfl) <| kas rfl <| RunK.nil <| LWP.ret ?_)
    exact ⟨[_], ⟨rfl, trivial⟩, rfl⟩
end Go.Proofs.Yteappfihapeakaa
end
section
-- SchemaClones: what an exclusive or turns; a clone that is held fast
namespace Go.Lg.Fld
open Go Go.Lg
theorem xor_one (a : Int) (h : -9223372036854775808 ≤ a ∧ a < 9223372036854775808) : bits .xor .i64 a 1 ≠ a ∧ -9223372036854775808 ≤ bits .xor .i64 a 1 ∧ bits .xor .i64 a 1 < 9223372036854775808 := by
  have hb : bits .xor .i64 a 1 = IntKind.i64.wrap ((BitVec.ofInt 64 a ^^^ BitVec.ofInt 64 1).toNat : Int) := rfl
  have hlt : (BitVec.ofInt 64 a ^^^ BitVec.ofInt 64 1).toNat < 18446744073709551616 := BitVec.isLt _
  rw [hb, IntKind.wrap_i64]
  refine ⟨fun e => ?_, by omega, by omega⟩
  have h2 : (BitVec.ofInt 64 a).toNat = (a % 18446744073709551616).toNat := BitVec.toNat_ofInt a
  have h3 : (BitVec.ofInt 64 a ^^^ BitVec.ofInt 64 1).toNat = (BitVec.ofInt 64 a).toNat := by rw [h2]; omega
  have h4 := BitVec.eq_of_toNat_eq h3
  have h5 : BitVec.ofInt 64 a ^^^ (BitVec.ofInt 64 a ^^^ BitVec.ofInt 64 1) = BitVec.ofInt 64 a ^^^ BitVec.ofInt 64 a := by rw [h4]
  rw [← BitVec.xor_assoc, BitVec.xor_self, BitVec.zero_xor] at h5
  exact absurd h5 (by decide)
end Go.Lg.Fld
namespace Go.Proofs.Yteappfihapeakaa
open Go Go.Lg Go.Lg.Fld
set_option maxRecDepth 100000
section
variable {P : Program} {n : Nat} {C : Ctx} {c : Code} {Q : Exit → St → Prop} {X : Nat → Option Obj} {s : List (Nat × LV)} {bx : List (Nat × Option Box)} {k j : Nat}
/-- a schema that was made, in a variable -/
abbrev syB (j : Nat) (ver : Int) (cv : CV) : Nat × Option Box := (j, some ⟨24, [.val (.int .i64 ver), cv], false⟩)
/-- components that were made, opened: the first block's cells are known -/
theorem sc_open {cs : List Cp} (h : ∀ (H : Nat → Option Obj) (cells sp : List Value), OwnedM C X H → cells.length = cs.length → Twigs H 41 3 [] cells (cs.map fun c => flV c.fs) → InB cs → LWP P n C c Q ⟨s, (k, some ⟨34, (rowsZ cs cells ++ sp).map .val, false⟩) :: bx, joinM X H⟩) :
    LWP P n C c Q ⟨s, scB k cs :: bx, X⟩ := by
  refine LWP.openRes (scR_root cs) fun ρ H vals el fr hR hv hO => ?_
  obtain ⟨arr, fr', cells, sp, h1, _, h3, G, hb⟩ := hR
  rw [hv] at h1
  simp only [Option.some.injEq, Obj.cells.injEq] at h1
  obtain ⟨rfl, rfl, rfl⟩ := h1
  rw [h3]
  exact h (cutM H ρ.1) cells sp (hO.cut _) (by rw [G.len, List.length_map]) G hb
/-- components whose cells are known are held fast -/
theorem sc_fix {cs : List Cp} {ver : Int} {H : Nat → Option Obj} {cells sp : List Value} (hO : OwnedM C X H) (hl : cells.length = cs.length) (G : Twigs H 41 3 [] cells (cs.map fun c => flV c.fs)) (hb : InB cs)
    (hs : s.all (fun p => p.2.inUse ((j, none) :: bx)) = true) (hbx : bx.all (fun p => match p.2 with | some b => b.cells.all (CV.inUse ((j, none) :: bx)) | none => true) = true) (hk : Go.Lg.look k bx = none) (hjk : Nat.beq j k = false)
    (h : ∀ (Y : Nat → Option Obj) (blk cap : Nat), (∀ b o, X b = some o → Y b = some o) → CompsIn Y (some ⟨blk, 0, none⟩) cs → cs.length ≤ cap → LWP P n C c Q ⟨s, syB j ver (.val (.slice (some ⟨blk, 0, none⟩) cs.length cap)) :: bx, Y⟩) :
    LWP P n C c Q ⟨s, syB j ver (.slc k 0 cs.length 3) :: (k, some ⟨34, (rowsZ cs cells ++ sp).map .val, false⟩) :: bx, joinM X H⟩ := by
  refine LWP.freezeCell (A := [.val (.int .i64 ver)]) (B := []) hs rfl rfl hbx hk hjk fun blk cap arr fr h1 _ h3 h4 h5 => ?_
  obtain ⟨sp2, e⟩ := h5
  have hX : ∀ b o, X b = some o → withBlock (joinM X H) blk (.cells arr 34 fr) b = some o := fun b o hbo => withBlock_old h1 b o (joinM_has hO hbo)
  refine h _ blk cap hX ?_ h3
  refine comps_block (fel := 41) (cells := cells) (sp := sp ++ sp2) (withBlock_at _ _ _) (by rw [e, List.append_assoc]) hl hb fun i c v hc hv => ?_
  refine (G.at_ i v (flV c.fs) (by simp) hv (by rw [List.getElem?_map, hc]; rfl)).mono fun b hb' => ?_
  have hne := G.some_of (by simp) hv hb'
  cases hc2 : H b with
  | none => exact absurd hc2 hne
  | some o => exact withBlock_old h1 b o (joinM_in hc2)
end
end Go.Proofs.Yteappfihapeakaa
end
section
-- SchemaClones
namespace Go.Proofs.Yteappfihapeakaa
open Go Go.Lg Go.Lg.Fld
set_option maxRecDepth 100000
theorem small_set {cs : List Cp} (h : SmallC cs) {k : Nat} {d : Cp} (hd : d.fs.length ≤ 12 ∧ d.nm.length ≤ 100 ∧ ∀ f ∈ d.fs, f.nm.length ≤ 100) : SmallC (cs.set k d) := by
  refine ⟨by rw [List.length_set]; exact h.1, fun c hc => ?_⟩
  rcases List.mem_or_eq_of_mem_set hc with hc | rfl
  · exact h.2 c hc
  · exact hd
theorem inb_set {cs : List Cp} (h : InB cs) {k : Nat} {d : Cp} (hd : (-9223372036854775808 ≤ d.id ∧ d.id < 9223372036854775808) ∧ ∀ f ∈ d.fs, (-9223372036854775808 ≤ f.kind ∧ f.kind < 9223372036854775808) ∧ (-9223372036854775808 ≤ f.count ∧ f.count < 9223372036854775808)) : InB (cs.set k d) := fun c hc => by
  rcases List.mem_or_eq_of_mem_set hc with hc | rfl
  · exact h c hc
  · exact hd
theorem set_ne {cs : List Cp} {k : Nat} {c d : Cp} (hc : cs[k]? = some c) (hne : d ≠ c) : cs.set k d ≠ cs := fun e => by
  have hk := (List.getElem?_eq_some_iff.1 hc).1
  have : (cs.set k d)[k]? = some d := List.getElem?_set_self hk
  rw [e, hc] at this
  exact hne (Option.some.inj this).symm
theorem set_same {α : Type} {l : List α} {k : Nat} {x : α} (h : l[k]? = some x) : l.set k x = l := by
  apply List.ext_getElem?
  intro j
  by_cases e : k = j
  · subst e; rw [List.getElem?_set_self (List.getElem?_eq_some_iff.1 h).1, h]
  · rw [List.getElem?_set_ne e]
variable (X : Nat → Option Obj)
set_option maxHeartbeats 12800000 in
theorem SchemaClones_spec (s : Sc) (ad : Option Addr) (cap : Nat) (at_ turn : Int) (hin : CompsIn X ad s.cs) :
    PSpec Try.prog X 6 [Sx s.ver ad s.cs.length cap, Ln .i64 at_, Ln .i64 turn] (Lb true) := by
  obtain ⟨ver, cs⟩ := s
  simp only at hin ⊢
  have hW := awake7_spec X
  have hG := great7_spec X ver ad cap cs hin (greatB cs) rfl
  refine PSpec.intro Try.func6 rfl (by kernel_rfl) rfl rfl ?_
  intro C
  cases hg : greatB cs with
  | true =>
    rw [hg] at hG
    (refine LWP.seq <| LWP.region (by kernel_rfl) <| K.box rfl rfl rfl .plain <| kas rfl <| RunK.nil <| LWP.seq <| LWP.seq <| LWP.region (by kernel_rfl) <| kca rfl rfl (hW) <| K.not rfl rfl .plain <| RunK.nil <| LWP.condF rfl ?_; refine LWP.skip ?_; refine LWP.seq <| LWP.seq <| LWP.region (by kernel_rfl) <| K.loadAll rfl rfl rfl .plain ?_; refine kca rfl rfl (hG) <| kmv rfl <| RunK.passed rfl rfl rfl <| RunK.passed rfl rfl rfl <| RunK.passed rfl rfl rfl <| RunK.passed rfl rfl rfl <| kpt rfl rfl <| RunK.nil <| LWP.condT rfl ?_; refine LWP.seq <| LWP.region (by kernel_rfl) <| kas rfl <| RunK.nil <| LWP.ret ?_)
    exact ⟨[_], ⟨rfl, trivial⟩, rfl⟩
  | false =>
  rw [hg] at hG
  have hS := greatB_small hg
  have hn30 := hS.1
  by_cases hn0 : cs.length = 0
  · (refine LWP.seq <| LWP.region (by kernel_rfl) <| K.box rfl rfl rfl .plain <| kas rfl <| RunK.nil <| LWP.seq <| LWP.seq <| LWP.region (by kernel_rfl) <| kca rfl rfl (hW) <| K.not rfl rfl .plain <| RunK.nil <| LWP.condF rfl ?_; refine LWP.skip ?_; refine LWP.seq <| LWP.seq <| LWP.region (by kernel_rfl) <| K.loadAll rfl rfl rfl .plain ?_; refine kca rfl rfl (hG) <| kmv rfl <| K.fieldAddr rfl rfl (.taken rfl rfl) ?_; refine K.loadOne rfl rfl rfl (.taken rfl rfl) ?_; refine K.lenX rfl SliceT.h rfl (.taken rfl rfl) ?_; refine K.eql rfl rfl (beq_iff_eq.2 (by omega)) (.taken rfl rfl) ?_; refine kpf rfl rfl <| RunK.nil <| LWP.condT rfl ?_; refine LWP.seq <| LWP.region (by kernel_rfl) <| kas rfl <| RunK.nil <| LWP.ret ?_)
    exact ⟨[_], ⟨rfl, trivial⟩, rfl⟩
  have hQ := pClone X ver ad cap cs hin hS
  obtain ⟨c0, hc0⟩ : ∃ c0, cs[0]? = some c0 := ⟨_, List.getElem?_eq_getElem (by omega)⟩
  obtain ⟨blk, off, _, _, _, _, _, rfl, _⟩ := hin.get hc0
  (refine LWP.seq <| LWP.region (by kernel_rfl) <| K.box rfl rfl rfl .plain <| kas rfl <| RunK.nil <| LWP.seq <| LWP.seq <| LWP.region (by kernel_rfl) <| kca rfl rfl (hW) <| K.not rfl rfl .plain <| RunK.nil <| LWP.condF rfl ?_; refine LWP.skip ?_; refine LWP.seq <| LWP.seq <| LWP.region (by kernel_rfl) <| K.loadAll rfl rfl rfl .plain ?_; refine kca rfl rfl (hG) <| kmv rfl <| K.fieldAddr rfl rfl (.taken rfl rfl) ?_; refine K.loadOne rfl rfl rfl (.taken rfl rfl) ?_; refine K.lenX rfl SliceT.h rfl (.taken rfl rfl) ?_; refine K.eql rfl rfl (beq_eq_false_iff_ne.2 (by omega)) (.taken rfl rfl) ?_; refine kpf rfl rfl <| RunK.nil <| LWP.condF rfl ?_; refine LWP.skip ?_; refine LWP.seq <| LWP.region (by kernel_rfl) <| K.loadAll rfl rfl rfl .plain ?_; refine K.callMp [(1000001, 500)] (.sv (.agg [.val (.int .i64 ver), .slc 500 0 cs.length 3])) [scB 500 cs] (hQ) rfl rfl (by exact trivial) rfl rfl rfl rfl rfl (by exact (.box rfl rfl .nil)) .plain <| K.alloc rfl .plain ?_; refine K.storeAll rfl rfl rfl rfl rfl rfl .plain ?_; refine RunK.nil <| LWP.seq <| LWP.region (by kernel_rfl) <| K.loadAll rfl rfl rfl .plain ?_; refine K.callMp [(1000001, 501)] (.sv (.agg [.val (.int .i64 ver), .slc 501 0 cs.length 3])) [scB 501 cs] (hQ) rfl rfl (by exact trivial) rfl rfl rfl rfl rfl (by exact (.box rfl rfl .nil)) .plain <| K.alloc rfl .plain ?_; refine K.storeAll rfl rfl rfl rfl rfl rfl .plain ?_; refine RunK.nil <| LWP.seq ?_)
  refine LWP.le (σ' := ⟨[(1, Ln .i64 at_), (2, Ln .i64 turn), (3, Lp 3), (7, Lp 7), (8, Lp 8)], [scB 500 cs, syB 7 ver (.slc 500 0 cs.length 3), syB 8 ver (.slc 501 0 cs.length 3), scB 501 cs, sxB 3 ver (some ⟨blk, off, none⟩) cs.length cap], X⟩) (Le.of (by exact ⟨rfl, rfl, rfl, rfl, rfl, trivial⟩) (by exact ⟨rfl, rfl, rfl, rfl, rfl, trivial⟩) (by exact rfl) (by exact rfl) (by repeat' (first | refine all_cons_true ?_ ?_ | rfl | exact bytes_inUse | exact vals_inUse | exact mid_inUse rfl))) ?_
  refine sc_open fun H1 cells1 sp1 hO1 hl1 G1 hb1 => ?_
  refine LWP.le (σ' := ⟨[(1, Ln .i64 at_), (2, Ln .i64 turn), (3, Lp 3), (7, Lp 7), (8, Lp 8)], [syB 7 ver (.slc 500 0 cs.length 3), (500, some ⟨34, (rowsZ cs cells1 ++ sp1).map .val, false⟩), syB 8 ver (.slc 501 0 cs.length 3), scB 501 cs, sxB 3 ver (some ⟨blk, off, none⟩) cs.length cap], joinM X H1⟩) ?_ ?_
  · exact Le.same ⟨fun _ => rfl, fun j => look_swap rfl, rfl⟩
  refine sc_fix hO1 hl1 G1 hb1 rfl rfl rfl rfl fun Y1 ablk acap hXY hA1 hac => ?_
  refine LWP.le (σ' := ⟨[(1, Ln .i64 at_), (2, Ln .i64 turn), (3, Lp 3), (7, Lp 7), (8, Lp 8)], [scB 501 cs, syB 8 ver (.slc 501 0 cs.length 3), syB 7 ver (.val (.slice (some ⟨ablk, 0, none⟩) cs.length acap)), sxB 3 ver (some ⟨blk, off, none⟩) cs.length cap], Y1⟩) (Le.of (by exact ⟨rfl, rfl, rfl, rfl, rfl, trivial⟩) (by exact ⟨rfl, rfl, rfl, rfl, trivial⟩) (by exact rfl) (by exact rfl) (by repeat' (first | refine all_cons_true ?_ ?_ | rfl | exact bytes_inUse | exact vals_inUse | exact mid_inUse rfl))) ?_
  refine sc_open fun H2 cells sp hO2 hcl G hInb => ?_
  -- the place
  have hu : IntKind.u64.wrap at_ = at_ % 18446744073709551616 := IntKind.wrap_u64 at_
  have hu2 : IntKind.u64.wrap ((cs.length : Nat) : Int) = ((cs.length : Nat) : Int) := by rw [IntKind.wrap_u64]; omega
  obtain ⟨U, hU⟩ : ∃ U : Nat, at_ % 18446744073709551616 = (U : Nat) := ⟨(at_ % 18446744073709551616).toNat, by omega⟩
  rw [hU] at hu
  have hrem : ((U : Nat) : Int).tmod ((cs.length : Nat) : Int) = ((U % cs.length : Nat) : Int) := by rw [Int.tmod_eq_emod_of_nonneg (by omega)]; omega
  have hk : U % cs.length < cs.length := Nat.mod_lt _ (by omega)
  generalize U % cs.length = k at *
  have hw : IntKind.i64.wrap ((k : Nat) : Int) = ((k : Nat) : Int) := wrap_i64 (by omega)
  (refine LWP.region (by kernel_rfl) <| kmv rfl <| kcv rfl hu ?_; refine kfa rfl rfl ?_; refine kl1 rfl rfl rfl <| K.lenSlc rfl SliceT.h rfl .plain ?_; refine kcv rfl hu2 ?_; refine K.rem rfl rfl (by omega) hrem .plain <| kcv rfl hw ?_; refine kas rfl <| RunK.nil <| LWP.seq ?_)
  obtain ⟨c, hc⟩ : ∃ c, cs[k]? = some c := ⟨_, List.getElem?_eq_getElem hk⟩
  obtain ⟨v, hv⟩ : ∃ v, cells[k]? = some v := ⟨_, List.getElem?_eq_getElem (by omega)⟩
  obtain ⟨hfb, hnb, hfn⟩ := hS.2 c (List.mem_of_getElem? hc)
  obtain ⟨hci, hcf⟩ := hInb c (List.mem_of_getElem? hc)
  have hix : 0 + Int.toNat ((k : Nat) : Int) * 3 = k * 3 := by rw [Int.toNat_natCast]; omega
  have hpl : (rowsZ (cs.take k) (cells.take k)).length = k * 3 := by rw [rowsZ_len (by rw [List.length_take, List.length_take, hcl]), List.length_take, Nat.min_eq_left (by omega)]
  have hsplit : (rowsZ cs cells ++ sp).map CV.val = (rowsZ (cs.take k) (cells.take k) ++ [Value.int .i64 c.id, Value.string ⟨c.nm.toArray⟩]).map .val ++ .val v :: (rowsZ (cs.drop (k + 1)) (cells.drop (k + 1)) ++ sp).map .val := by
    rw [rowsZ_split hc hv]; simp
  have hAl : ((rowsZ (cs.take k) (cells.take k) ++ [Value.int .i64 c.id, Value.string ⟨c.nm.toArray⟩]).map CV.val).length = k * 3 + 2 := by rw [List.length_map, List.length_append, hpl]; rfl
  by_cases hcase : c.fs ≠ [] ∧ turn.tmod 2 = 0
  · obtain ⟨f0, rest, hfs⟩ : ∃ f0 rest, c.fs = f0 :: rest := by
      cases hfs : c.fs with
      | nil => exact absurd hfs hcase.1
      | cons f0 rest => exact ⟨f0, rest, rfl⟩
    have hne0 : flV c.fs ≠ [] := fun e => by
      have := flV_len c.fs
      rw [e, hfs] at this; simp at this
    obtain ⟨b, hb⟩ : ∃ b, LeadsTo H2 b v 41 3 (flV c.fs) := by
      rcases G.at_ k v (flV c.fs) (by simp) hv (by rw [List.getElem?_map, hc]; rfl) with ⟨h0, _⟩ | ⟨b, hb, _⟩
      · exact absurd h0 hne0
      · exact ⟨b, hb⟩
    have G2 := G.openAt (p := k) (by simp) hv (hb.blkZ hne0)
    obtain ⟨hf0k, hf0c⟩ := hcf f0 (by rw [hfs]; simp)
    obtain ⟨hx1, hx2⟩ := xor_one f0.count hf0c
    generalize hx : bits .xor .i64 f0.count 1 = x at *
    have hcell2 : ((flV c.fs).map CV.val)[2]? = some (.val (.int .i64 f0.count)) := by rw [hfs]; rfl
    have hput2 : ((flV c.fs).map CV.val).set 2 (.val (.int .i64 x)) = (flV (⟨f0.nm, f0.kind, x⟩ :: rest)).map .val := by rw [hfs]; rfl
    have hblt2 : Nat.blt 2 ((flV c.fs).map CV.val).length = true := by rw [Nat.blt_eq, List.length_map, flV_len, hfs, List.length_cons]; omega
    have hpos : (0 : Int) < ((c.fs.length : Nat) : Int) := by rw [hfs, List.length_cons]; omega
    have hlt0 : (0 : Int) ≤ 0 ∧ (0 : Int) < ((c.fs.length : Nat) : Int) := ⟨by omega, hpos⟩
    have heq0 : (turn.tmod 2 == 0) = true := by rw [beq_iff_eq]; exact hcase.2
    have hcell1 : ((rowsZ (cs.take k) (cells.take k) ++ [Value.int .i64 c.id, Value.string ⟨c.nm.toArray⟩]).map CV.val ++ .slc 502 0 c.fs.length 3 :: (rowsZ (cs.drop (k + 1)) (cells.drop (k + 1)) ++ sp).map CV.val)[k * 3 + 2]? = some (.slc 502 0 c.fs.length 3) := mid_get hAl
    refine LWP.le (σ' := ⟨[(2, Ln .i64 turn), (3, Lp 3), (7, Lp 7), (8, Lp 8), (9, Ln .i64 (k : Nat))], [(501, some ⟨34, (rowsZ (cs.take k) (cells.take k) ++ [Value.int .i64 c.id, Value.string ⟨c.nm.toArray⟩]).map .val ++ .val v :: (rowsZ (cs.drop (k + 1)) (cells.drop (k + 1)) ++ sp).map .val, false⟩), syB 8 ver (.slc 501 0 cs.length 3), syB 7 ver (.val (.slice (some ⟨ablk, 0, none⟩) cs.length acap)), sxB 3 ver (some ⟨blk, off, none⟩) cs.length cap], joinM Y1 H2⟩) (by rw [← hsplit]; exact Le.of (by exact ⟨rfl, rfl, rfl, rfl, rfl, trivial⟩) (by exact ⟨rfl, rfl, rfl, rfl, trivial⟩) (by exact rfl) (by exact rfl) (by repeat' (first | refine all_cons_true ?_ ?_ | rfl | exact bytes_inUse | exact vals_inUse | exact mid_inUse rfl))) ?_
    generalize hPre : rowsZ (cs.take k) (cells.take k) ++ [Value.int .i64 c.id, Value.string ⟨c.nm.toArray⟩] = pre at *
    generalize hPost : rowsZ (cs.drop (k + 1)) (cells.drop (k + 1)) ++ sp = post at *
    refine LWP.openCell (k := 502) (sz := 3) (len := c.fs.length) hO2 hb (flV_len _) (by omega) rfl (by exact (by repeat' (first | refine all_cons_true ?_ ?_ | rfl | exact bytes_inUse | exact vals_inUse | exact mid_inUse rfl))) rfl rfl rfl ?_
    (refine LWP.region (by kernel_rfl) <| kfa rfl rfl ?_; refine kl1 rfl rfl rfl <| kmv rfl <| K.indexSlc rfl rfl (by omega) hix .plain ?_; refine kfa rfl rfl ?_; refine kl1 rfl rfl hcell1 <| kas rfl <| RunK.nil <| LWP.seq <| LWP.seq <| LWP.region (by kernel_rfl) <| kmv rfl <| K.lenSlc rfl SliceT.h rfl .plain ?_; refine K.gtr rfl rfl (decide_eq_true hpos) .plain <| kmv rfl <| gmv rfl rfl rfl <| K.rem rfl rfl (by decide) rfl (.taken rfl rfl) ?_; refine K.eql rfl rfl heq0 (.taken rfl rfl) ?_; refine kpt rfl rfl <| RunK.nil <| LWP.condT rfl ?_; refine LWP.region (by kernel_rfl) <| kmv rfl <| kmv rfl <| K.indexSlc rfl rfl hlt0 rfl .plain ?_; refine kfa rfl rfl ?_; refine kl1 rfl rfl hcell2 <| K.bitop (by simp) rfl rfl hx .plain <| K.indexSlc rfl rfl hlt0 rfl .plain ?_; refine kfa rfl rfl ?_; refine K.storeOne rfl rfl rfl rfl hblt2 hput2 .plain <| RunK.nil <| LWP.seq ?_)
    refine LWP.le (σ' := ⟨[(3, Lp 3), (7, Lp 7), (8, Lp 8), (9, Ln .i64 (k : Nat))], [(501, some ⟨34, pre.map .val ++ .slc 502 0 c.fs.length 3 :: post.map .val, false⟩), (502, some ⟨41, (flV (⟨f0.nm, f0.kind, x⟩ :: rest)).map .val, true⟩), syB 8 ver (.slc 501 0 cs.length 3), syB 7 ver (.val (.slice (some ⟨ablk, 0, none⟩) cs.length acap)), sxB 3 ver (some ⟨blk, off, none⟩) cs.length cap], joinM Y1 (cutM H2 b)⟩) (Le.of (by exact ⟨rfl, rfl, rfl, rfl, trivial⟩) (by exact ⟨rfl, rfl, rfl, rfl, rfl, trivial⟩) (by exact rfl) (by exact rfl) (by repeat' (first | refine all_cons_true ?_ ?_ | rfl | exact bytes_inUse | exact vals_inUse | exact mid_inUse rfl))) ?_
    refine LWP.closeCell (hO2.cut b) (by rw [flV_len, hfs]; rfl) rfl vals_inUse vals_inUse rfl rfl rfl fun b2 o2 v2 n2 _ hO3 hv2 => ?_
    have G3 := G2.shutAt (by omega) n2 hv2 (fun e => by cases e)
    have hset := rowsZ_set (d := ⟨c.id, c.nm, ⟨f0.nm, f0.kind, x⟩ :: rest⟩) (u := v2) hcl hc hv
    have hmap : (cs.map fun c => flV c.fs).set k (flV (⟨f0.nm, f0.kind, x⟩ :: rest)) = (cs.set k ⟨c.id, c.nm, ⟨f0.nm, f0.kind, x⟩ :: rest⟩).map fun c => flV c.fs := by rw [List.map_set]
    rw [hmap] at G3
    have hdne : (⟨c.id, c.nm, ⟨f0.nm, f0.kind, x⟩ :: rest⟩ : Cp) ≠ c := fun e => by
      have := congrArg Cp.fs e
      rw [hfs] at this
      simp only [List.cons.injEq, and_true] at this
      exact hx1 (congrArg Fl.count this)
    have hSd : SmallC (cs.set k ⟨c.id, c.nm, ⟨f0.nm, f0.kind, x⟩ :: rest⟩) := small_set hS ⟨by rw [hfs] at hfb; exact hfb, hnb, fun f hf => by
      rw [hfs] at hfn
      rcases List.mem_cons.1 hf with rfl | hf
      · exact hfn f0 (by simp)
      · exact hfn f (by simp [hf])⟩
    have hId : InB (cs.set k ⟨c.id, c.nm, ⟨f0.nm, f0.kind, x⟩ :: rest⟩) := inb_set hInb ⟨hci, fun f hf => by
      rw [hfs] at hcf
      rcases List.mem_cons.1 hf with rfl | hf
      · exact ⟨hf0k, hx2⟩
      · exact hcf f (by simp [hf])⟩
    have hcells : pre.map CV.val ++ .val v2 :: post.map .val = (rowsZ (cs.set k ⟨c.id, c.nm, ⟨f0.nm, f0.kind, x⟩ :: rest⟩) (cells.set k v2) ++ sp).map .val := by
      rw [hset, ← hPre, ← hPost]; simp
    rw [hcells]
    have hfld : (⟨c.id, c.nm, ⟨f0.nm, f0.kind, x⟩ :: rest⟩ : Cp).fs.length ≤ 12 := by rw [hfs] at hfb; exact hfb
    have hdl : (cs.set k ⟨c.id, c.nm, ⟨f0.nm, f0.kind, x⟩ :: rest⟩).length = cs.length := List.length_set ..
    have hdk : (cs.set k ⟨c.id, c.nm, ⟨f0.nm, f0.kind, x⟩ :: rest⟩)[k]? = some ⟨c.id, c.nm, ⟨f0.nm, f0.kind, x⟩ :: rest⟩ := List.getElem?_set_self hk
    have hcl2 : (cells.set k v2).length = (cs.set k ⟨c.id, c.nm, ⟨f0.nm, f0.kind, x⟩ :: rest⟩).length := by rw [List.length_set, List.length_set]; exact hcl
    have hdiff := set_ne hc hdne
    generalize (⟨c.id, c.nm, ⟨f0.nm, f0.kind, x⟩ :: rest⟩ : Cp) = d at *
    generalize cs.set k d = ds at *
    generalize cells.set k v2 = cells2 at *
    rw [← hdl]
    refine LWP.le (σ' := ⟨[(3, Lp 3), (7, Lp 7), (8, Lp 8), (9, Ln .i64 (k : Nat))], [syB 8 ver (.slc 501 0 ds.length 3), (501, some ⟨34, (rowsZ ds cells2 ++ sp).map .val, false⟩), syB 7 ver (.val (.slice (some ⟨ablk, 0, none⟩) cs.length acap)), sxB 3 ver (some ⟨blk, off, none⟩) cs.length cap], joinM Y1 (withBlock (cutM H2 b) b2 o2)⟩) (by rw [hdl]; exact Le.same ⟨fun _ => rfl, fun j => look_swap rfl, rfl⟩) ?_
    refine sc_fix hO3 hcl2 G3 hId rfl rfl rfl rfl fun Y3 bblk bcap hY13 hB3 hbc => ?_
    have hXY3 : ∀ b o, X b = some o → Y3 b = some o := fun b o h => hY13 b o (hXY b o h)
    have hin3 := hin.mono hXY3
    have hA3 := hA1.mono hY13
    have s1 := pSame Y3 ⟨ver, cs⟩ ⟨ver, cs⟩ (some ⟨ablk, 0, none⟩) (some ⟨blk, off, none⟩) acap cap hA3 hin3 hS true (decide_eq_true rfl)
    have s2 := pSame Y3 ⟨ver, ds⟩ ⟨ver, cs⟩ (some ⟨bblk, 0, none⟩) (some ⟨blk, off, none⟩) bcap cap hB3 hin3 hSd false (decide_eq_false fun e => hdiff (congrArg Sc.cs e))
    obtain ⟨q1, o1, arr1, el1, fr1, fad1, fcap1, e1, hX1, hz1, hr1, _, _, _, hF1⟩ := hB3.get hdk
    obtain ⟨q2, o2', arr2, el2, fr2, fad2, fcap2, e2, hX2, hz2, hr2, _, _, _, hF2⟩ := hin3.get hc
    simp only [Option.some.injEq, Addr.mk.injEq] at e1 e2
    obtain ⟨rfl, rfl, _⟩ := e1
    obtain ⟨rfl, rfl, _⟩ := e2
    have s3 := pSameComp Y3 d c fad1 fad2 fcap1 fcap2 hF1 hF2 (by omega) false (decide_eq_false hdne)
    have hio2 : off + Int.toNat ((k : Nat) : Int) * 3 = off + k * 3 := by simp
    have hio1 : 0 + Int.toNat ((k : Nat) : Int) * 3 = 0 + k * 3 := by simp
    have hkd : (0 : Int) ≤ ((k : Nat) : Int) ∧ ((k : Nat) : Int) < ((ds.length : Nat) : Int) := by omega
    have hkc : (0 : Int) ≤ ((k : Nat) : Int) ∧ ((k : Nat) : Int) < ((cs.length : Nat) : Int) := by omega
    (refine LWP.draws mixed (by kernel_rfl) <| K.loadAll rfl rfl rfl .plain ?_; refine K.loadAll rfl rfl rfl .plain ?_; refine kca rfl rfl s1 <| kmv rfl <| K.loadAll rfl rfl rfl (.taken rfl rfl) ?_; refine K.loadAll rfl rfl rfl (.taken rfl rfl) ?_; refine gca rfl rfl s2 rfl rfl <| K.not rfl rfl (.taken rfl rfl) ?_; refine kpt rfl rfl <| kmv rfl <| K.fieldAddr rfl rfl (.taken rfl rfl) ?_; refine K.loadOne rfl rfl rfl (.taken rfl rfl) ?_; refine gmv rfl rfl rfl <| K.indexX rfl rfl SliceT.h hkd hio1 (.taken rfl rfl) ?_; refine K.loadXagg rfl hX1 (by kernel_rfl) hz1 hr1 (.taken rfl rfl) ?_; refine K.fieldAddr rfl rfl (.taken rfl rfl) ?_; refine K.loadOne rfl rfl rfl (.taken rfl rfl) ?_; refine gmv rfl rfl rfl <| K.indexX rfl rfl SliceT.h hkc hio2 (.taken rfl rfl) ?_; refine K.loadXagg rfl hX2 (by kernel_rfl) hz2 hr2 (.taken rfl rfl) ?_; refine gca rfl rfl s3 rfl rfl <| K.not rfl rfl (.taken rfl rfl) ?_; refine kpt rfl rfl <| kas rfl <| RunK.nil <| And.intro (by kernel_rfl) ?_; refine LWP.ret ?_)
    exact ⟨[_], ⟨rfl, trivial⟩, rfl⟩
  · have hleaf : ∃ fad fcap, v = .slice fad c.fs.length fcap := by
      rcases G.at_ k v (flV c.fs) (by simp) hv (by rw [List.getElem?_map, hc]; rfl) with ⟨h0, ad, cp, rfl⟩ | ⟨b, ⟨len, cp, arr, fr, rfl, h2, _⟩, _⟩
      · have : c.fs.length = 0 := by have := flV_len c.fs; rw [h0, List.length_nil] at this; omega
        rw [this]; exact ⟨ad, cp, rfl⟩
      · rw [flV_len] at h2
        have e : c.fs.length = len := by omega
        rw [e]; exact ⟨_, cp, rfl⟩
    obtain ⟨fad, fcap, rfl⟩ := hleaf
    obtain ⟨hx1, hx2⟩ := xor_one c.id hci
    generalize hx : bits .xor .i64 c.id 1 = x at *
    have hcell1 : ((rowsZ cs cells ++ sp).map CV.val)[k * 3 + 2]? = some (.val (.slice fad c.fs.length fcap)) := by rw [hsplit]; exact mid_get hAl
    have hcell0 : ((rowsZ cs cells ++ sp).map CV.val)[k * 3]? = some (.val (.int .i64 c.id)) := by
      rw [rowsZ_split hc hv, List.append_assoc, List.map_append]
      exact mid_get (by rw [List.length_map]; exact hpl)
    have hset := rowsZ_set (d := ⟨x, c.nm, c.fs⟩) (u := .slice fad c.fs.length fcap) hcl hc hv
    rw [set_same hv] at hset
    have hput : ((rowsZ cs cells ++ sp).map CV.val).set (k * 3) (.val (.int .i64 x)) = (rowsZ (cs.set k ⟨x, c.nm, c.fs⟩) cells ++ sp).map .val := by
      rw [hset, rowsZ_split hc hv]
      simp only [List.append_assoc, List.map_append, List.cons_append, List.map_cons]
      rw [List.set_append_right _ _ (by rw [List.length_map, hpl]; exact Nat.le_refl _), List.length_map, hpl, Nat.sub_self]; rfl
    have hblt : Nat.blt (k * 3) ((rowsZ cs cells ++ sp).map CV.val).length = true := by rw [Nat.blt_eq, List.length_map, List.length_append, rowsZ_len hcl]; omega
    have hdne : (⟨x, c.nm, c.fs⟩ : Cp) ≠ c := fun e => hx1 (congrArg Cp.id e)
    have hSd : SmallC (cs.set k ⟨x, c.nm, c.fs⟩) := small_set hS ⟨hfb, hnb, hfn⟩
    have hId : InB (cs.set k ⟨x, c.nm, c.fs⟩) := inb_set hInb ⟨hx2, hcf⟩
    have hmap : (cs.set k ⟨x, c.nm, c.fs⟩).map (fun c => flV c.fs) = cs.map fun c => flV c.fs := by
      rw [List.map_set]
      exact set_same (by rw [List.getElem?_map, hc]; rfl)
    have G3 : Twigs H2 41 3 [] cells ((cs.set k ⟨x, c.nm, c.fs⟩).map fun c => flV c.fs) := by rw [hmap]; exact G
    have hfld : (⟨x, c.nm, c.fs⟩ : Cp).fs.length ≤ 12 := hfb
    have hdl : (cs.set k ⟨x, c.nm, c.fs⟩).length = cs.length := List.length_set ..
    have hdk : (cs.set k ⟨x, c.nm, c.fs⟩)[k]? = some ⟨x, c.nm, c.fs⟩ := List.getElem?_set_self hk
    have hcl2 : cells.length = (cs.set k ⟨x, c.nm, c.fs⟩).length := by rw [List.length_set]; exact hcl
    have hdiff := set_ne hc hdne
    generalize (⟨x, c.nm, c.fs⟩ : Cp) = d at *
    generalize cs.set k d = ds at *
    refine LWP.le (σ' := ⟨[(2, Ln .i64 turn), (3, Lp 3), (7, Lp 7), (8, Lp 8), (9, Ln .i64 (k : Nat))], [(501, some ⟨34, (rowsZ cs cells ++ sp).map .val, false⟩), syB 8 ver (.slc 501 0 cs.length 3), syB 7 ver (.val (.slice (some ⟨ablk, 0, none⟩) cs.length acap)), sxB 3 ver (some ⟨blk, off, none⟩) cs.length cap], joinM Y1 H2⟩) (Le.of (by exact ⟨rfl, rfl, rfl, rfl, rfl, trivial⟩) (by exact ⟨rfl, rfl, rfl, rfl, trivial⟩) (by exact rfl) (by exact rfl) (by repeat' (first | refine all_cons_true ?_ ?_ | rfl | exact bytes_inUse | exact vals_inUse | exact mid_inUse rfl))) ?_
    have hlss : (0 : Int) ≤ ((k : Nat) : Int) ∧ ((k : Nat) : Int) < ((cs.length : Nat) : Int) := by omega
    by_cases hemp : c.fs.length = 0
    · rw [hemp] at hcell1
      (refine LWP.region (by kernel_rfl) <| kfa rfl rfl ?_; refine kl1 rfl rfl rfl <| kmv rfl <| K.indexSlc rfl rfl hlss hix .plain ?_; refine kfa rfl rfl ?_; refine kl1 rfl rfl hcell1 <| kas rfl <| RunK.nil <| LWP.seq <| LWP.seq <| LWP.region (by kernel_rfl) <| kmv rfl <| K.lenX rfl SliceT.h rfl .plain ?_; refine K.gtr rfl rfl (decide_eq_false (by omega)) .plain <| kmv rfl <| RunK.passed rfl rfl rfl <| RunK.passed rfl rfl rfl <| RunK.passed rfl rfl rfl <| kpf rfl rfl <| RunK.nil <| LWP.condF rfl ?_; refine LWP.draws mixed (by kernel_rfl) <| kfa rfl rfl ?_; refine kl1 rfl rfl rfl <| kmv rfl <| kfa rfl rfl ?_; refine kl1 rfl rfl rfl <| kmv rfl <| K.indexSlc rfl rfl hlss hix .plain ?_; refine kfa rfl rfl ?_; refine kl1 rfl rfl hcell0 <| K.bitop (by simp) rfl rfl hx .plain <| K.indexSlc rfl rfl hlss hix .plain ?_; refine kfa rfl rfl ?_; refine K.storeOne rfl rfl rfl rfl hblt hput .plain <| RunK.nil <| And.intro (by kernel_rfl) ?_; refine LWP.seq ?_)
      refine LWP.le (σ' := ⟨[(3, Lp 3), (7, Lp 7), (8, Lp 8), (9, Ln .i64 (k : Nat))], [syB 8 ver (.slc 501 0 ds.length 3), (501, some ⟨34, (rowsZ ds cells ++ sp).map .val, false⟩), syB 7 ver (.val (.slice (some ⟨ablk, 0, none⟩) cs.length acap)), sxB 3 ver (some ⟨blk, off, none⟩) cs.length cap], joinM Y1 H2⟩) (by rw [hdl]; exact Le.of (by exact ⟨rfl, rfl, rfl, rfl, trivial⟩) (by exact ⟨rfl, rfl, rfl, rfl, trivial⟩) (by exact rfl) (by exact rfl) (by repeat' (first | refine all_cons_true ?_ ?_ | rfl | exact bytes_inUse | exact vals_inUse | exact mid_inUse rfl))) ?_
      refine sc_fix hO2 hcl2 G3 hId rfl rfl rfl rfl fun Y3 bblk bcap hY13 hB3 hbc => ?_
      have hXY3 : ∀ b o, X b = some o → Y3 b = some o := fun b o h => hY13 b o (hXY b o h)
      have hin3 := hin.mono hXY3
      have hA3 := hA1.mono hY13
      have s1 := pSame Y3 ⟨ver, cs⟩ ⟨ver, cs⟩ (some ⟨ablk, 0, none⟩) (some ⟨blk, off, none⟩) acap cap hA3 hin3 hS true (decide_eq_true rfl)
      have s2 := pSame Y3 ⟨ver, ds⟩ ⟨ver, cs⟩ (some ⟨bblk, 0, none⟩) (some ⟨blk, off, none⟩) bcap cap hB3 hin3 hSd false (decide_eq_false fun e => hdiff (congrArg Sc.cs e))
      obtain ⟨q1, o1, arr1, el1, fr1, fad1, fcap1, e1, hX1, hz1, hr1, _, _, _, hF1⟩ := hB3.get hdk
      obtain ⟨q2, o2', arr2, el2, fr2, fad2, fcap2, e2, hX2, hz2, hr2, _, _, _, hF2⟩ := hin3.get hc
      simp only [Option.some.injEq, Addr.mk.injEq] at e1 e2
      obtain ⟨rfl, rfl, _⟩ := e1
      obtain ⟨rfl, rfl, _⟩ := e2
      have s3 := pSameComp Y3 d c fad1 fad2 fcap1 fcap2 hF1 hF2 (by omega) false (decide_eq_false hdne)
      have hio2 : off + Int.toNat ((k : Nat) : Int) * 3 = off + k * 3 := by simp
      have hio1 : 0 + Int.toNat ((k : Nat) : Int) * 3 = 0 + k * 3 := by simp
      have hkd : (0 : Int) ≤ ((k : Nat) : Int) ∧ ((k : Nat) : Int) < ((ds.length : Nat) : Int) := by omega
      have hkc : (0 : Int) ≤ ((k : Nat) : Int) ∧ ((k : Nat) : Int) < ((cs.length : Nat) : Int) := by omega
      (refine LWP.draws mixed (by kernel_rfl) <| K.loadAll rfl rfl rfl .plain ?_; refine K.loadAll rfl rfl rfl .plain ?_; refine kca rfl rfl s1 <| kmv rfl <| K.loadAll rfl rfl rfl (.taken rfl rfl) ?_; refine K.loadAll rfl rfl rfl (.taken rfl rfl) ?_; refine gca rfl rfl s2 rfl rfl <| K.not rfl rfl (.taken rfl rfl) ?_; refine kpt rfl rfl <| kmv rfl <| K.fieldAddr rfl rfl (.taken rfl rfl) ?_; refine K.loadOne rfl rfl rfl (.taken rfl rfl) ?_; refine gmv rfl rfl rfl <| K.indexX rfl rfl SliceT.h hkd hio1 (.taken rfl rfl) ?_; refine K.loadXagg rfl hX1 (by kernel_rfl) hz1 hr1 (.taken rfl rfl) ?_; refine K.fieldAddr rfl rfl (.taken rfl rfl) ?_; refine K.loadOne rfl rfl rfl (.taken rfl rfl) ?_; refine gmv rfl rfl rfl <| K.indexX rfl rfl SliceT.h hkc hio2 (.taken rfl rfl) ?_; refine K.loadXagg rfl hX2 (by kernel_rfl) hz2 hr2 (.taken rfl rfl) ?_; refine gca rfl rfl s3 rfl rfl <| K.not rfl rfl (.taken rfl rfl) ?_; refine kpt rfl rfl <| kas rfl <| RunK.nil <| And.intro (by kernel_rfl) ?_; refine LWP.ret ?_)
      exact ⟨[_], ⟨rfl, trivial⟩, rfl⟩
    · have hodd : (turn.tmod 2 == 0) = false := beq_eq_false_iff_ne.2 fun e => hcase ⟨fun e2 => hemp (by rw [e2]; rfl), e⟩
      (refine LWP.region (by kernel_rfl) <| kfa rfl rfl ?_; refine kl1 rfl rfl rfl <| kmv rfl <| K.indexSlc rfl rfl hlss hix .plain ?_; refine kfa rfl rfl ?_; refine kl1 rfl rfl hcell1 <| kas rfl <| RunK.nil <| LWP.seq <| LWP.seq <| LWP.region (by kernel_rfl) <| kmv rfl <| K.lenX rfl SliceT.h rfl .plain ?_; refine K.gtr rfl rfl (decide_eq_true (by omega)) .plain <| kmv rfl <| gmv rfl rfl rfl <| K.rem rfl rfl (by decide) rfl (.taken rfl rfl) ?_; refine K.eql rfl rfl hodd (.taken rfl rfl) ?_; refine kpt rfl rfl <| RunK.nil <| LWP.condF rfl ?_; refine LWP.draws mixed (by kernel_rfl) <| kfa rfl rfl ?_; refine kl1 rfl rfl rfl <| kmv rfl <| kfa rfl rfl ?_; refine kl1 rfl rfl rfl <| kmv rfl <| K.indexSlc rfl rfl hlss hix .plain ?_; refine kfa rfl rfl ?_; refine kl1 rfl rfl hcell0 <| K.bitop (by simp) rfl rfl hx .plain <| K.indexSlc rfl rfl hlss hix .plain ?_; refine kfa rfl rfl ?_; refine K.storeOne rfl rfl rfl rfl hblt hput .plain <| RunK.nil <| And.intro (by kernel_rfl) ?_; refine LWP.seq ?_)
      refine LWP.le (σ' := ⟨[(3, Lp 3), (7, Lp 7), (8, Lp 8), (9, Ln .i64 (k : Nat))], [syB 8 ver (.slc 501 0 ds.length 3), (501, some ⟨34, (rowsZ ds cells ++ sp).map .val, false⟩), syB 7 ver (.val (.slice (some ⟨ablk, 0, none⟩) cs.length acap)), sxB 3 ver (some ⟨blk, off, none⟩) cs.length cap], joinM Y1 H2⟩) (by rw [hdl]; exact Le.of (by exact ⟨rfl, rfl, rfl, rfl, trivial⟩) (by exact ⟨rfl, rfl, rfl, rfl, trivial⟩) (by exact rfl) (by exact rfl) (by repeat' (first | refine all_cons_true ?_ ?_ | rfl | exact bytes_inUse | exact vals_inUse | exact mid_inUse rfl))) ?_
      refine sc_fix hO2 hcl2 G3 hId rfl rfl rfl rfl fun Y3 bblk bcap hY13 hB3 hbc => ?_
      have hXY3 : ∀ b o, X b = some o → Y3 b = some o := fun b o h => hY13 b o (hXY b o h)
      have hin3 := hin.mono hXY3
      have hA3 := hA1.mono hY13
      have s1 := pSame Y3 ⟨ver, cs⟩ ⟨ver, cs⟩ (some ⟨ablk, 0, none⟩) (some ⟨blk, off, none⟩) acap cap hA3 hin3 hS true (decide_eq_true rfl)
      have s2 := pSame Y3 ⟨ver, ds⟩ ⟨ver, cs⟩ (some ⟨bblk, 0, none⟩) (some ⟨blk, off, none⟩) bcap cap hB3 hin3 hSd false (decide_eq_false fun e => hdiff (congrArg Sc.cs e))
      obtain ⟨q1, o1, arr1, el1, fr1, fad1, fcap1, e1, hX1, hz1, hr1, _, _, _, hF1⟩ := hB3.get hdk
      obtain ⟨q2, o2', arr2, el2, fr2, fad2, fcap2, e2, hX2, hz2, hr2, _, _, _, hF2⟩ := hin3.get hc
      simp only [Option.some.injEq, Addr.mk.injEq] at e1 e2
      obtain ⟨rfl, rfl, _⟩ := e1
      obtain ⟨rfl, rfl, _⟩ := e2
      have s3 := pSameComp Y3 d c fad1 fad2 fcap1 fcap2 hF1 hF2 (by omega) false (decide_eq_false hdne)
      have hio2 : off + Int.toNat ((k : Nat) : Int) * 3 = off + k * 3 := by simp
      have hio1 : 0 + Int.toNat ((k : Nat) : Int) * 3 = 0 + k * 3 := by simp
      have hkd : (0 : Int) ≤ ((k : Nat) : Int) ∧ ((k : Nat) : Int) < ((ds.length : Nat) : Int) := by omega
      have hkc : (0 : Int) ≤ ((k : Nat) : Int) ∧ ((k : Nat) : Int) < ((cs.length : Nat) : Int) := by omega
      (refine LWP.draws mixed (by kernel_rfl) <| K.loadAll rfl rfl rfl .plain ?_; refine K.loadAll rfl rfl rfl .plain ?_; refine kca rfl rfl s1 <| kmv rfl <| K.loadAll rfl rfl rfl (.taken rfl rfl) ?_; refine K.loadAll rfl rfl rfl (.taken rfl rfl) ?_; refine gca rfl rfl s2 rfl rfl <| K.not rfl rfl (.taken rfl rfl) ?_; refine kpt rfl rfl <| kmv rfl <| K.fieldAddr rfl rfl (.taken rfl rfl) ?_; refine K.loadOne rfl rfl rfl (.taken rfl rfl) ?_; refine gmv rfl rfl rfl <| K.indexX rfl rfl SliceT.h hkd hio1 (.taken rfl rfl) ?_; refine K.loadXagg rfl hX1 (by kernel_rfl) hz1 hr1 (.taken rfl rfl) ?_; refine K.fieldAddr rfl rfl (.taken rfl rfl) ?_; refine K.loadOne rfl rfl rfl (.taken rfl rfl) ?_; refine gmv rfl rfl rfl <| K.indexX rfl rfl SliceT.h hkc hio2 (.taken rfl rfl) ?_; refine K.loadXagg rfl hX2 (by kernel_rfl) hz2 hr2 (.taken rfl rfl) ?_; refine gca rfl rfl s3 rfl rfl <| K.not rfl rfl (.taken rfl rfl) ?_; refine kpt rfl rfl <| kas rfl <| RunK.nil <| And.intro (by kernel_rfl) ?_; refine LWP.ret ?_)
      exact ⟨[_], ⟨rfl, trivial⟩, rfl⟩
end Go.Proofs.Yteappfihapeakaa
end
