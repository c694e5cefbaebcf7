/- A piece of a proof over this program: contracts of its functions, and a logic to prove them by. -/
import Derived.Test.YtbpdbclndfmcgaaGreatDoorQ2
import Derived.Test.YtbpdbclndfmcgaaGreatDoorQ4
import Derived.Test.YtbpdbclndfmcgaaGreatDoorQ5
import Derived.Test.YtbpdbclndfmcgaaGreatDoorQ6
import Derived.Lib.ItoaLen
import Derived.Lib.SmallJoins
section
namespace Go.Proofs.YtbpdbclndfmcgaaGreatDoor
open Go Go.Lg Go.Lg.Fld Go.Lg.Sg Go.Lg.Col
set_option maxRecDepth 100000
abbrev entsT (t : Tb) : List Nat := t.l.map Rw.e
abbrev enB (k : Nat) (L : List Nat) : Nat × Option Box := (k, some ⟨37, (L.map fun h => Value.int .u64 (h : Nat)).map .val, true⟩)
theorem EntsAt.at {H : Nat → Option Obj} {v : Value} {l : List Nat} (h : EntsAt H v l) {i e : Nat} (hi : l[i]? = some e) : ∃ (db cap : Nat) (arr : Array Value) (fr : Nat × Nat), v = .slice (some ⟨db, 0, none⟩) l.length cap ∧ H db = some (.cells arr 37 fr) ∧ arr[i]? = some (.int .u64 (e : Nat)) := by
  rcases h with ⟨_, rfl⟩ | ⟨db, len, cap, arr, fr, rfl, h2, _, _, h5, sp, h6⟩
  · simp at hi
  · have hl : len = l.length := by unfold entV at h2; rw [List.length_map] at h2; omega
    refine ⟨db, cap, arr, fr, by rw [hl], h5, ?_⟩
    rw [← Array.getElem?_toList, h6, List.getElem?_append_left (by unfold entV; rw [List.length_map]; exact (List.getElem?_eq_some_iff.1 hi).1)]
    unfold entV
    rw [List.getElem?_map, hi]; rfl
variable (X : Nat → Option Obj)
theorem tKept (t : Tb) (hk : TbOk t) : MSpec Tryz.prog X 19 [Lp 1000000] [tB 1000000 t] (Ln .i64 (t.kept : Nat)) [tB 1000000 t] := by
  have hk1 := hk.most
  refine MSpec.intro Tryz.func19 rfl (by kernel_rfl) rfl rfl (by exact (by repeat' (first | refine all_cons_true ?_ ?_ | rfl | exact bytes_inUse | exact vals_inUse | exact mid_inUse rfl))) rfl rfl ?_
  intro C
  refine LWP.ends (tab_open fun Hs He Hr vE vC vP ps h1 h2 h3 hI => ?_)
  (refine LWP.seq <| rgN <| kas rfl <| RunK.nil <| LWP.seq <| LWP.seq <| rgN <| kmv rfl <| K.ptrNil rfl (by kernel_rfl) (.inl ⟨rfl, rfl⟩) .plain <| RunK.nil <| LWP.condF rfl ?_; refine LWP.skip ?_; refine LWP.seq <| rgN <| kmv rfl <| K.nilCheck rfl .plain <| kfa rfl rfl ?_; refine kl1 rfl rfl rfl <| kas rfl <| RunK.nil <| LWP.ret ?_)
  refine tab_shut h1 h2 h3 hI (Leads.done ?_)
  exact ⟨[], ⟨[_], ⟨rfl, trivial⟩, rfl⟩, (by repeat' (first | exact trivial | refine And.intro ⟨_, rfl, ?_⟩ ?_ | refine And.intro ⟨_, rfl⟩ ?_ | rfl | exact Box.ren_bytes _ _ _ _ | exact Box.ren_vals _ _ _ _ | exact Box.ren_mid rfl)), rfl, rfl⟩
theorem mKept (m : Bool) (t : Tb) (hk : TbOk t) : MSpec Tryz.prog X 19 [Lp 1000000] [tM 1000000 m t] (Ln .i64 (t.kept : Nat)) [tM 1000000 m t] := by
  have hk1 := hk.most
  refine MSpec.intro Tryz.func19 rfl (by kernel_rfl) rfl rfl (by exact (by repeat' (first | refine all_cons_true ?_ ?_ | rfl | exact bytes_inUse | exact vals_inUse | exact mid_inUse rfl))) rfl rfl ?_
  intro C
  refine LWP.ends (tabM_open fun Hs He Hr vE vC vP ps h1 h2 h3 hI hm => ?_)
  (refine LWP.seq <| rgN <| kas rfl <| RunK.nil <| LWP.seq <| LWP.seq <| rgN <| kmv rfl <| K.ptrNil rfl (by kernel_rfl) (.inl ⟨rfl, rfl⟩) .plain <| RunK.nil <| LWP.condF rfl ?_; refine LWP.skip ?_; refine LWP.seq <| rgN <| kmv rfl <| K.nilCheck rfl .plain <| kfa rfl rfl ?_; refine kl1 rfl rfl rfl <| kas rfl <| RunK.nil <| LWP.ret ?_)
  refine tabM_shut h1 h2 h3 hI hm (Leads.done ?_)
  exact ⟨[], ⟨[_], ⟨rfl, trivial⟩, rfl⟩, (by repeat' (first | exact trivial | refine And.intro ⟨_, rfl, ?_⟩ ?_ | refine And.intro ⟨_, rfl⟩ ?_ | rfl | exact Box.ren_bytes _ _ _ _ | exact Box.ren_vals _ _ _ _ | exact Box.ren_mid rfl)), rfl, rfl⟩
theorem tLen (t : Tb) (hk : TbOk t) : MSpec Tryz.prog X 18 [Lp 1000000] [tB 1000000 t] (Ln .i64 (t.l.length : Nat)) [tB 1000000 t] := by
  have hk1 := hk.most
  refine MSpec.intro Tryz.func18 rfl (by kernel_rfl) rfl rfl (by exact (by repeat' (first | refine all_cons_true ?_ ?_ | rfl | exact bytes_inUse | exact vals_inUse | exact mid_inUse rfl))) rfl rfl ?_
  intro C
  refine LWP.ends (tab_open fun Hs He Hr vE vC vP ps h1 h2 h3 hI => ?_)
  obtain ⟨ad, cap, rfl⟩ := hI.ents.slice
  rw [List.length_map] at *
  (refine LWP.seq <| rgN <| kas rfl <| RunK.nil <| LWP.seq <| LWP.seq <| rgN <| kmv rfl <| K.ptrNil rfl (by kernel_rfl) (.inl ⟨rfl, rfl⟩) .plain <| RunK.nil <| LWP.condF rfl ?_; refine LWP.skip ?_; refine LWP.seq <| rgN <| kmv rfl <| K.nilCheck rfl .plain <| kfa rfl rfl ?_; refine kl1 rfl rfl rfl <| K.lenX rfl SliceT.h rfl .plain ?_; refine kas rfl <| RunK.nil <| LWP.ret ?_)
  refine tab_shut h1 h2 h3 hI (Leads.done ?_)
  exact ⟨[], ⟨[_], ⟨rfl, trivial⟩, rfl⟩, (by repeat' (first | exact trivial | refine And.intro ⟨_, rfl, ?_⟩ ?_ | refine And.intro ⟨_, rfl⟩ ?_ | rfl | exact Box.ren_bytes _ _ _ _ | exact Box.ren_vals _ _ _ _ | exact Box.ren_mid rfl)), rfl, rfl⟩
theorem mLen (m : Bool) (t : Tb) (hk : TbOk t) : MSpec Tryz.prog X 18 [Lp 1000000] [tM 1000000 m t] (Ln .i64 (t.l.length : Nat)) [tM 1000000 m t] := by
  have hk1 := hk.most
  refine MSpec.intro Tryz.func18 rfl (by kernel_rfl) rfl rfl (by exact (by repeat' (first | refine all_cons_true ?_ ?_ | rfl | exact bytes_inUse | exact vals_inUse | exact mid_inUse rfl))) rfl rfl ?_
  intro C
  refine LWP.ends (tabM_open fun Hs He Hr vE vC vP ps h1 h2 h3 hI hm => ?_)
  obtain ⟨ad, cap, rfl⟩ := hI.ents.slice
  rw [List.length_map] at *
  (refine LWP.seq <| rgN <| kas rfl <| RunK.nil <| LWP.seq <| LWP.seq <| rgN <| kmv rfl <| K.ptrNil rfl (by kernel_rfl) (.inl ⟨rfl, rfl⟩) .plain <| RunK.nil <| LWP.condF rfl ?_; refine LWP.skip ?_; refine LWP.seq <| rgN <| kmv rfl <| K.nilCheck rfl .plain <| kfa rfl rfl ?_; refine kl1 rfl rfl rfl <| K.lenX rfl SliceT.h rfl .plain ?_; refine kas rfl <| RunK.nil <| LWP.ret ?_)
  refine tabM_shut h1 h2 h3 hI hm (Leads.done ?_)
  exact ⟨[], ⟨[_], ⟨rfl, trivial⟩, rfl⟩, (by repeat' (first | exact trivial | refine And.intro ⟨_, rfl, ?_⟩ ?_ | refine And.intro ⟨_, rfl⟩ ?_ | rfl | exact Box.ren_bytes _ _ _ _ | exact Box.ren_vals _ _ _ _ | exact Box.ren_mid rfl)), rfl, rfl⟩
theorem tRoom (t : Tb) (hk : TbOk t) : MSpec Tryz.prog X 20 [Lp 1000000] [tB 1000000 t] (Ln .i64 (roomT t : Nat)) [tB 1000000 t] := by
  have hk1 := hk.most
  refine MSpec.intro Tryz.func20 rfl (by kernel_rfl) rfl rfl (by exact (by repeat' (first | refine all_cons_true ?_ ?_ | rfl | exact bytes_inUse | exact vals_inUse | exact mid_inUse rfl))) rfl rfl ?_
  intro C
  refine LWP.ends (tab_open fun Hs He Hr vE vC vP ps h1 h2 h3 hI => ?_)
  obtain ⟨ad, cap, rfl⟩ := hI.ents.slice
  rw [List.length_map] at *
  have h0 := len0 (tH X Hs He Hr) t ad t.l.length cap vC vP
  have hr := hk.room
  have h4 : IntKind.i64.wrap (((t.most : Nat) : Int) - (t.l.length : Nat)) = ((t.most - t.l.length : Nat) : Int) := by rw [wrap_i64 (by omega)]; omega
  have h5 : IntKind.i64.wrap (((t.most - t.l.length : Nat) : Int) - (t.kept : Nat)) = ((roomT t : Nat) : Int) := by unfold roomT; rw [wrap_i64 (by omega)]; omega
  generalize roomT t = rm at *
  (refine LWP.seq <| rgN <| kas rfl <| RunK.nil <| LWP.seq <| LWP.seq <| rgN <| kmv rfl <| K.ptrNil rfl (by kernel_rfl) (.inl ⟨rfl, rfl⟩) .plain <| RunK.nil <| LWP.condF rfl ?_; refine LWP.skip ?_; refine LWP.seq <| rgD mixed <| kmv rfl <| K.nilCheck rfl .plain <| kfa rfl rfl ?_; refine kl1 rfl rfl rfl <| kmv rfl <| K.callR [(1000000, 1000000)] (h0) rfl rfl (by exact (And.intro ⟨_, rfl, rfl⟩ trivial)) (by exact (all_cons_true (all_cons_true rfl (all_cons_true rfl (all_cons_true rfl (all_cons_true rfl (all_cons_true rfl (all_cons_true rfl (all_cons_true rfl rfl))))))) rfl)) rfl rfl rfl rfl .plain <| K.sub rfl rfl h4 .plain <| kmv rfl <| K.nilCheck rfl .plain <| kfa rfl rfl ?_; refine kl1 rfl rfl rfl <| K.sub rfl rfl h5 .plain <| kas rfl <| RunK.nil <| rgA ?_; refine LWP.ret ?_)
  refine tab_shut h1 h2 h3 hI (Leads.done ?_)
  exact ⟨[], ⟨[_], ⟨rfl, trivial⟩, rfl⟩, (by repeat' (first | exact trivial | refine And.intro ⟨_, rfl, ?_⟩ ?_ | refine And.intro ⟨_, rfl⟩ ?_ | rfl | exact Box.ren_bytes _ _ _ _ | exact Box.ren_vals _ _ _ _ | exact Box.ren_mid rfl)), rfl, rfl⟩
theorem mRoom (m : Bool) (t : Tb) (hk : TbOk t) : MSpec Tryz.prog X 20 [Lp 1000000] [tM 1000000 m t] (Ln .i64 (roomT t : Nat)) [tM 1000000 m t] := by
  have hk1 := hk.most
  refine MSpec.intro Tryz.func20 rfl (by kernel_rfl) rfl rfl (by exact (by repeat' (first | refine all_cons_true ?_ ?_ | rfl | exact bytes_inUse | exact vals_inUse | exact mid_inUse rfl))) rfl rfl ?_
  intro C
  refine LWP.ends (tabM_open fun Hs He Hr vE vC vP ps h1 h2 h3 hI hm => ?_)
  obtain ⟨ad, cap, rfl⟩ := hI.ents.slice
  rw [List.length_map] at *
  have h0 := len0 (tH X Hs He Hr) t ad t.l.length cap vC vP
  have hr := hk.room
  have h4 : IntKind.i64.wrap (((t.most : Nat) : Int) - (t.l.length : Nat)) = ((t.most - t.l.length : Nat) : Int) := by rw [wrap_i64 (by omega)]; omega
  have h5 : IntKind.i64.wrap (((t.most - t.l.length : Nat) : Int) - (t.kept : Nat)) = ((roomT t : Nat) : Int) := by unfold roomT; rw [wrap_i64 (by omega)]; omega
  generalize roomT t = rm at *
  (refine LWP.seq <| rgN <| kas rfl <| RunK.nil <| LWP.seq <| LWP.seq <| rgN <| kmv rfl <| K.ptrNil rfl (by kernel_rfl) (.inl ⟨rfl, rfl⟩) .plain <| RunK.nil <| LWP.condF rfl ?_; refine LWP.skip ?_; refine LWP.seq <| rgD mixed <| kmv rfl <| K.nilCheck rfl .plain <| kfa rfl rfl ?_; refine kl1 rfl rfl rfl <| kmv rfl <| K.callR [(1000000, 1000000)] (h0) rfl rfl (by exact (And.intro ⟨_, rfl, rfl⟩ trivial)) (by exact (all_cons_true (all_cons_true rfl (all_cons_true rfl (all_cons_true rfl (all_cons_true rfl (all_cons_true rfl (all_cons_true rfl (all_cons_true rfl rfl))))))) rfl)) rfl rfl rfl rfl .plain <| K.sub rfl rfl h4 .plain <| kmv rfl <| K.nilCheck rfl .plain <| kfa rfl rfl ?_; refine kl1 rfl rfl rfl <| K.sub rfl rfl h5 .plain <| kas rfl <| RunK.nil <| rgA ?_; refine LWP.ret ?_)
  refine tabM_shut h1 h2 h3 hI hm (Leads.done ?_)
  exact ⟨[], ⟨[_], ⟨rfl, trivial⟩, rfl⟩, (by repeat' (first | exact trivial | refine And.intro ⟨_, rfl, ?_⟩ ?_ | refine And.intro ⟨_, rfl⟩ ?_ | rfl | exact Box.ren_bytes _ _ _ _ | exact Box.ren_vals _ _ _ _ | exact Box.ren_mid rfl)), rfl, rfl⟩
theorem tKeep_no (t : Tb) (hk : TbOk t) (h : roomT t = 0) : MSpec Tryz.prog X 16 [Lp 1000000] [tB 1000000 t] (Ln .i64 5) [tB 1000000 t] := by
  refine MSpec.intro Tryz.func16 rfl (by kernel_rfl) rfl rfl (by exact (by repeat' (first | refine all_cons_true ?_ ?_ | rfl | exact bytes_inUse | exact vals_inUse | exact mid_inUse rfl))) rfl rfl ?_
  intro C
  refine LWP.ends (tab_open fun Hs He Hr vE vC vP ps h1 h2 h3 hI => ?_)
  obtain ⟨ad, cap, rfl⟩ := hI.ents.slice
  rw [List.length_map] at *
  have h0 := room0 (tH X Hs He Hr) t ad t.l.length cap vC vP hk.room hk.most.2
  rw [show t.most - t.l.length - t.kept = roomT t from rfl] at h0
  (refine LWP.seq <| rgN <| kas rfl <| RunK.nil <| LWP.seq <| LWP.block <| LWP.seq <| rgN <| kmv rfl <| K.ptrNil rfl (by kernel_rfl) (.inl ⟨rfl, rfl⟩) .plain <| kas rfl <| RunK.nil <| LWP.condF rfl ?_; refine LWP.seq <| rgN <| kmv rfl <| K.callR [(1000000, 1000000)] (h0) rfl rfl (by exact (And.intro ⟨_, rfl, rfl⟩ trivial)) (by exact (all_cons_true (all_cons_true rfl (all_cons_true rfl (all_cons_true rfl (all_cons_true rfl (all_cons_true rfl (all_cons_true rfl (all_cons_true rfl rfl))))))) rfl)) rfl rfl rfl rfl .plain <| keq rfl rfl (r := true) (by rw [h]; rfl) <| kas rfl <| RunK.nil <| LWP.condT rfl ?_; refine LWP.seq <| rgN <| kas rfl <| RunK.nil <| LWP.ret ?_)
  refine tab_shut h1 h2 h3 hI (Leads.done ?_)
  exact ⟨[], ⟨[_], ⟨rfl, trivial⟩, rfl⟩, (by repeat' (first | exact trivial | refine And.intro ⟨_, rfl, ?_⟩ ?_ | refine And.intro ⟨_, rfl⟩ ?_ | rfl | exact Box.ren_bytes _ _ _ _ | exact Box.ren_vals _ _ _ _ | exact Box.ren_mid rfl)), rfl, rfl⟩
theorem tKeep (t : Tb) (hk : TbOk t) (h : roomT t ≠ 0) : MSpec Tryz.prog X 16 [Lp 1000000] [tB 1000000 t] (Ln .i64 0) [tB 1000000 { t with kept := t.kept + 1 }] := by
  have hr := hk.room
  have hm := hk.most
  have hadd : IntKind.i64.wrap (((t.kept : Nat) : Int) + 1) = ((t.kept + 1 : Nat) : Int) := by rw [wrap_i64 (by omega)]; omega
  refine MSpec.intro Tryz.func16 rfl (by kernel_rfl) rfl rfl (by exact (by repeat' (first | refine all_cons_true ?_ ?_ | rfl | exact bytes_inUse | exact vals_inUse | exact mid_inUse rfl))) rfl rfl ?_
  intro C
  refine LWP.ends (tab_open fun Hs He Hr vE vC vP ps h1 h2 h3 hI => ?_)
  obtain ⟨ad, cap, rfl⟩ := hI.ents.slice
  rw [List.length_map] at *
  have h0 := room0 (tH X Hs He Hr) t ad t.l.length cap vC vP hk.room hk.most.2
  rw [show t.most - t.l.length - t.kept = roomT t from rfl] at h0
  (refine LWP.seq <| rgN <| kas rfl <| RunK.nil <| LWP.seq <| LWP.block <| LWP.seq <| rgN <| kmv rfl <| K.ptrNil rfl (by kernel_rfl) (.inl ⟨rfl, rfl⟩) .plain <| kas rfl <| RunK.nil <| LWP.condF rfl ?_; refine LWP.seq <| rgN <| kmv rfl <| K.callR [(1000000, 1000000)] (h0) rfl rfl (by exact (And.intro ⟨_, rfl, rfl⟩ trivial)) (by exact (all_cons_true (all_cons_true rfl (all_cons_true rfl (all_cons_true rfl (all_cons_true rfl (all_cons_true rfl (all_cons_true rfl (all_cons_true rfl rfl))))))) rfl)) rfl rfl rfl rfl .plain <| keq rfl rfl (r := false) (beq_eq_false_iff_ne.2 (by omega)) <| kas rfl <| RunK.nil <| LWP.condF rfl ?_; refine LWP.skip ?_; refine LWP.seq <| rgN <| kmv rfl <| K.nilCheck rfl .plain <| kfa rfl rfl ?_; refine kl1 rfl rfl rfl <| kad rfl rfl hadd <| K.nilCheck rfl .plain <| kfa rfl rfl ?_; refine K.storeOne rfl rfl rfl rfl rfl (nl7 rfl rfl rfl rfl rfl rfl rfl rfl) .plain <| RunK.nil <| LWP.seq <| rgN <| kas rfl <| RunK.nil <| LWP.ret ?_)
  refine tab_shut (t := { t with kept := t.kept + 1 }) h1 h2 h3 ⟨hI.sc, hI.ptrs, hI.refs, hI.ents, hI.two⟩ (Leads.done ?_)
  exact ⟨[], ⟨[_], ⟨rfl, trivial⟩, rfl⟩, (by repeat' (first | exact trivial | refine And.intro ⟨_, rfl, ?_⟩ ?_ | refine And.intro ⟨_, rfl⟩ ?_ | rfl | exact Box.ren_bytes _ _ _ _ | exact Box.ren_vals _ _ _ _ | exact Box.ren_mid rfl)), rfl, rfl⟩
theorem tYield_no (t : Tb) (hk : TbOk t) (h : t.kept = 0) : MSpec Tryz.prog X 17 [Lp 1000000] [tB 1000000 t] (Ln .i64 6) [tB 1000000 t] := by
  refine MSpec.intro Tryz.func17 rfl (by kernel_rfl) rfl rfl (by exact (by repeat' (first | refine all_cons_true ?_ ?_ | rfl | exact bytes_inUse | exact vals_inUse | exact mid_inUse rfl))) rfl rfl ?_
  intro C
  refine LWP.ends (tab_open fun Hs He Hr vE vC vP ps h1 h2 h3 hI => ?_)
  obtain ⟨ad, cap, rfl⟩ := hI.ents.slice
  rw [List.length_map] at *
  (refine LWP.seq <| rgN <| kas rfl <| RunK.nil <| LWP.seq <| LWP.block <| LWP.seq <| rgN <| kmv rfl <| K.ptrNil rfl (by kernel_rfl) (.inl ⟨rfl, rfl⟩) .plain <| kas rfl <| RunK.nil <| LWP.condF rfl ?_; refine LWP.seq <| rgN <| kmv rfl <| K.nilCheck rfl .plain <| kfa rfl rfl ?_; refine kl1 rfl rfl rfl <| keq rfl rfl (r := true) (by rw [h]; rfl) <| kas rfl <| RunK.nil <| LWP.condT rfl ?_; refine LWP.seq <| rgN <| kas rfl <| RunK.nil <| LWP.ret ?_)
  refine tab_shut h1 h2 h3 hI (Leads.done ?_)
  exact ⟨[], ⟨[_], ⟨rfl, trivial⟩, rfl⟩, (by repeat' (first | exact trivial | refine And.intro ⟨_, rfl, ?_⟩ ?_ | refine And.intro ⟨_, rfl⟩ ?_ | rfl | exact Box.ren_bytes _ _ _ _ | exact Box.ren_vals _ _ _ _ | exact Box.ren_mid rfl)), rfl, rfl⟩
theorem tYield (t : Tb) (hk : TbOk t) (h : t.kept ≠ 0) : MSpec Tryz.prog X 17 [Lp 1000000] [tB 1000000 t] (Ln .i64 0) [tB 1000000 { t with kept := t.kept - 1 }] := by
  have hr := hk.room
  have hm := hk.most
  have hadd : IntKind.i64.wrap (((t.kept : Nat) : Int) - 1) = ((t.kept - 1 : Nat) : Int) := by rw [wrap_i64 (by omega)]; omega
  refine MSpec.intro Tryz.func17 rfl (by kernel_rfl) rfl rfl (by exact (by repeat' (first | refine all_cons_true ?_ ?_ | rfl | exact bytes_inUse | exact vals_inUse | exact mid_inUse rfl))) rfl rfl ?_
  intro C
  refine LWP.ends (tab_open fun Hs He Hr vE vC vP ps h1 h2 h3 hI => ?_)
  obtain ⟨ad, cap, rfl⟩ := hI.ents.slice
  rw [List.length_map] at *
  (refine LWP.seq <| rgN <| kas rfl <| RunK.nil <| LWP.seq <| LWP.block <| LWP.seq <| rgN <| kmv rfl <| K.ptrNil rfl (by kernel_rfl) (.inl ⟨rfl, rfl⟩) .plain <| kas rfl <| RunK.nil <| LWP.condF rfl ?_; refine LWP.seq <| rgN <| kmv rfl <| K.nilCheck rfl .plain <| kfa rfl rfl ?_; refine kl1 rfl rfl rfl <| keq rfl rfl (r := false) (beq_eq_false_iff_ne.2 (by omega)) <| kas rfl <| RunK.nil <| LWP.condF rfl ?_; refine LWP.skip ?_; refine LWP.seq <| rgN <| kmv rfl <| K.nilCheck rfl .plain <| kfa rfl rfl ?_; refine kl1 rfl rfl rfl <| K.sub rfl rfl hadd .plain <| K.nilCheck rfl .plain <| kfa rfl rfl ?_; refine K.storeOne rfl rfl rfl rfl rfl (nl7 rfl rfl rfl rfl rfl rfl rfl rfl) .plain <| RunK.nil <| LWP.seq <| rgN <| kas rfl <| RunK.nil <| LWP.ret ?_)
  refine tab_shut (t := { t with kept := t.kept - 1 }) h1 h2 h3 ⟨hI.sc, hI.ptrs, hI.refs, hI.ents, hI.two⟩ (Leads.done ?_)
  exact ⟨[], ⟨[_], ⟨rfl, trivial⟩, rfl⟩, (by repeat' (first | exact trivial | refine And.intro ⟨_, rfl, ?_⟩ ?_ | refine And.intro ⟨_, rfl⟩ ?_ | rfl | exact Box.ren_bytes _ _ _ _ | exact Box.ren_vals _ _ _ _ | exact Box.ren_mid rfl)), rfl, rfl⟩
theorem ent0 (t : Tb) (v vC vP : Value) (L : List Nat) (row : Int) (hE : EntsAt X v L) (hb : L.length ≤ 256) :
    MSpec Tryz.prog X 22 [Lp 1000000, Ln .i64 row] [tS 1000000 t (.val v) vC vP] (Ln .u64 ((if 0 ≤ row ∧ row < L.length then L.getD row.toNat 0 else 0 : Nat) : Nat)) [tS 1000000 t (.val v) vC vP] := by
  refine MSpec.intro Tryz.func22 rfl (by kernel_rfl) rfl rfl (by exact (by repeat' (first | refine all_cons_true ?_ ?_ | rfl | exact bytes_inUse | exact vals_inUse | exact mid_inUse rfl))) rfl rfl ?_
  intro C
  by_cases hr : 0 ≤ row ∧ row < L.length
  · rw [if_pos hr]
    obtain ⟨i, rfl⟩ : ∃ i : Nat, row = i := ⟨row.toNat, by omega⟩
    have hi : i < L.length := by omega
    have hx : L[i]? = some (L.getD i 0) := by rw [List.getD_eq_getElem?_getD, List.getElem?_eq_getElem hi]; rfl
    rw [Int.toNat_natCast]
    obtain ⟨db, cap, arr, fr, rfl, hX, ha⟩ := hE.at hx
    have hs := seek0 X t (some ⟨db, 0, none⟩) L.length cap vC vP i hi
    have hio : 0 + Int.toNat (i : Int) * 1 = i := by simp
    generalize L.getD i 0 = e at *
    (refine LWP.seq <| rgN <| kas rfl <| RunK.nil <| LWP.seq <| LWP.seq <| rgN <| kmv rfl <| kmv rfl <| K.callR [(1000000, 1000000)] (hs) rfl rfl (by exact (And.intro ⟨_, rfl, rfl⟩ trivial)) (by exact (all_cons_true (all_cons_true rfl (all_cons_true rfl (all_cons_true rfl (all_cons_true rfl (all_cons_true rfl (all_cons_true rfl (all_cons_true rfl rfl))))))) rfl)) rfl rfl rfl rfl .plain <| kne rfl rfl ((bne_eq_false_iff_eq.2 (by omega))) <| RunK.nil <| LWP.condF rfl ?_; refine LWP.skip ?_; refine LWP.seq <| rgN <| kmv rfl <| K.nilCheck rfl .plain <| kfa rfl rfl ?_; refine kl1 rfl rfl rfl <| kmv rfl <| K.indexX rfl rfl SliceT.h (by omega) hio .plain <| K.loadX rfl hX rfl ha .plain <| kas rfl <| RunK.nil <| LWP.ret ?_)
    exact ⟨[], ⟨[_], ⟨rfl, trivial⟩, rfl⟩, (by repeat' (first | exact trivial | refine And.intro ⟨_, rfl, ?_⟩ ?_ | refine And.intro ⟨_, rfl⟩ ?_ | rfl | exact Box.ren_bytes _ _ _ _ | exact Box.ren_vals _ _ _ _ | exact Box.ren_mid rfl)), rfl, rfl⟩
  · rw [if_neg hr]
    obtain ⟨ad, cap, rfl⟩ := hE.slice
    have hs := seek0_no X t ad L.length cap vC vP row (by omega)
    (refine LWP.seq <| rgN <| kas rfl <| RunK.nil <| LWP.seq <| LWP.seq <| rgN <| kmv rfl <| kmv rfl <| K.callR [(1000000, 1000000)] (hs) rfl rfl (by exact (And.intro ⟨_, rfl, rfl⟩ trivial)) (by exact (all_cons_true (all_cons_true rfl (all_cons_true rfl (all_cons_true rfl (all_cons_true rfl (all_cons_true rfl (all_cons_true rfl (all_cons_true rfl rfl))))))) rfl)) rfl rfl rfl rfl .plain <| kne rfl rfl (bne_iff_ne.2 (by omega)) <| RunK.nil <| LWP.condT rfl ?_; refine LWP.seq <| rgN <| kas rfl <| RunK.nil <| LWP.ret ?_)
    exact ⟨[], ⟨[_], ⟨rfl, trivial⟩, rfl⟩, (by repeat' (first | exact trivial | refine And.intro ⟨_, rfl, ?_⟩ ?_ | refine And.intro ⟨_, rfl⟩ ?_ | rfl | exact Box.ren_bytes _ _ _ _ | exact Box.ren_vals _ _ _ _ | exact Box.ren_mid rfl)), rfl, rfl⟩
theorem EntsAt.mono {H Y : Nat → Option Obj} {v : Value} {l : List Nat} (h : EntsAt H v l) (hY : ∀ b o, H b = some o → Y b = some o) : EntsAt Y v l := by
  rcases h with h | ⟨db, len, cap, arr, fr, g1, g2, g3, g4, g5, g6⟩
  · exact .inl h
  · exact .inr ⟨db, len, cap, arr, fr, g1, g2, g3, g4, hY _ _ g5, g6⟩
theorem entV_reads {Y H : Nat → Option Obj} {v : Value} {l : List Nat} (h : EntsAt H v l) (hne : v ≠ nilSlc) (hY : ∀ b o, H b = some o → Y b = some o) : ∃ db cap, v = .slice (some ⟨db, 0, none⟩) l.length cap ∧ ReadsX Y (some ⟨db, 0, none⟩) (entV l) := by
  rcases h with ⟨h, _⟩ | ⟨db, len, cap, arr, fr, rfl, g2, _, _, g5, sp, g6⟩
  · exact absurd h hne
  · have hl : len = l.length := by unfold entV at g2; rw [List.length_map] at g2; omega
    exact ⟨db, cap, by rw [hl], ⟨fun i u hu => ⟨db, 0, arr, _, fr, rfl, hY _ _ g5, by rw [← Array.getElem?_toList, g6, Nat.zero_add, List.getElem?_append_left (List.getElem?_eq_some_iff.1 hu).1]; exact hu⟩⟩⟩
theorem entV_one (l : List Nat) : ∀ u ∈ entV l, u.oneCell' = true := fun u hu => by
  unfold entV at hu
  obtain ⟨x, _, rfl⟩ := List.mem_map.1 hu
  rfl
theorem kClEn_nil (cap : Nat) : PSpec Tryz.prog X 54 [.sv (.one (vS none 0 cap))] (.sv (.one (.val nilSlc))) := by
  refine PSpec.intro Tryz.func54 rfl (by kernel_rfl) rfl rfl ?_
  intro C
  (refine LWP.seq <| rgN <| kas rfl <| RunK.nil <| LWP.seq <| LWP.seq <| rgN <| kmv rfl <| K.slcNil (r := true) rfl SliceT.h (.inl ⟨rfl, rfl⟩) .plain ?_; refine RunK.nil <| LWP.condT rfl ?_; refine LWP.seq <| rgN <| kas rfl <| RunK.nil <| LWP.ret ?_)
  exact ⟨[_], ⟨rfl, trivial⟩, rfl⟩
theorem kClEn (db cap : Nat) (l : List Nat) (hR : ReadsX X (some ⟨db, 0, none⟩) (entV l)) (hb : l.length ≤ 256) :
    MSpec Tryz.prog X 54 [.sv (.one (vS (some ⟨db, 0, none⟩) l.length cap))] [] (.sv (.one (.slc 1000001 0 l.length 1))) [enB 1000001 l] := by
  have hlen : (entV l).length = l.length * 1 := by unfold entV; rw [List.length_map]; omega
  refine MSpec.intro Tryz.func54 rfl (by kernel_rfl) rfl rfl (by exact (by repeat' (first | refine all_cons_true ?_ ?_ | rfl | exact bytes_inUse | exact vals_inUse | exact mid_inUse rfl))) rfl rfl ?_
  intro C
  (refine LWP.seq <| rgN <| kas rfl <| RunK.nil <| LWP.seq <| LWP.seq <| rgN <| kmv rfl <| K.slcNil (r := false) rfl SliceT.h (.inl ⟨rfl, rfl⟩) .plain ?_; refine RunK.nil <| LWP.condF rfl ?_; refine LWP.skip ?_; refine LWP.seq <| rgN <| K.buildSlc (zs := []) (sz := 1) (e := 37) (by kernel_rfl) rfl rfl rfl rfl rfl rfl .plain <| kmv rfl <| K.appendX (by_ := 8) (e2 := 37) (news := entV l) (nl := l.length) (nc := (entV l).map .val) rfl rfl rfl rfl hR hlen (entV_one l) (by kernel_rfl) (by kernel_rfl) (by omega) (by omega) rfl (by omega) rfl .plain ?_; refine kas rfl <| RunK.nil <| LWP.ret ?_)
  exact ⟨[(1000001, 7)], ⟨[_], ⟨rfl, trivial⟩, rfl⟩, (by repeat' (first | exact trivial | refine And.intro ⟨_, rfl, ?_⟩ ?_ | refine And.intro ⟨_, rfl⟩ ?_ | rfl | exact Box.ren_bytes _ _ _ _ | exact Box.ren_vals _ _ _ _ | exact Box.ren_mid rfl)), rfl, rfl⟩
theorem tEnts_none (t : Tb) (hk : TbOk t) : MSpec Tryz.prog X 21 [Lp 1000000] [tM 1000000 false t] (.sv (.one (.val (.slice none 0 0)))) [tM 1000000 false t] := by
  have _ := hk
  refine MSpec.intro Tryz.func21 rfl (by kernel_rfl) rfl rfl (by exact (by repeat' (first | refine all_cons_true ?_ ?_ | rfl | exact bytes_inUse | exact vals_inUse | exact mid_inUse rfl))) rfl rfl ?_
  intro C
  refine LWP.ends (tabM_open fun Hs He Hr vE vC vP ps h1 h2 h3 hI hm => ?_)
  obtain rfl : vE = nilSlc := Classical.byContradiction fun e => by have := hm.2 e; cases this
  have hC := kClEn_nil (tH X Hs He Hr) 0
  unfold nilSlc at *
  (refine LWP.seq <| rgN <| kas rfl <| RunK.nil <| LWP.seq <| LWP.seq <| rgN <| kmv rfl <| K.ptrNil rfl (by kernel_rfl) (.inl ⟨rfl, rfl⟩) .plain <| RunK.nil <| LWP.condF rfl ?_; refine LWP.skip ?_; refine LWP.seq <| rgN <| kmv rfl <| K.nilCheck rfl .plain <| kfa rfl rfl ?_; refine kl1 rfl rfl rfl <| kca rfl rfl hC <| kas rfl <| RunK.nil <| LWP.ret ?_)
  refine tabM_shut h1 h2 h3 hI hm (Leads.done ?_)
  exact ⟨[], ⟨[_], ⟨rfl, trivial⟩, rfl⟩, (by repeat' (first | exact trivial | refine And.intro ⟨_, rfl, ?_⟩ ?_ | refine And.intro ⟨_, rfl⟩ ?_ | rfl | exact Box.ren_bytes _ _ _ _ | exact Box.ren_vals _ _ _ _ | exact Box.ren_mid rfl)), rfl, rfl⟩
theorem tEnts (t : Tb) (hk : TbOk t) : MSpec Tryz.prog X 21 [Lp 1000000] [tM 1000000 true t] (.sv (.one (.slc 1000001 0 t.l.length 1))) [tM 1000000 true t, enB 1000001 (entsT t)] := by
  have hr := hk.room
  have hmo := hk.most
  refine MSpec.intro Tryz.func21 rfl (by kernel_rfl) rfl rfl (by exact (by repeat' (first | refine all_cons_true ?_ ?_ | rfl | exact bytes_inUse | exact vals_inUse | exact mid_inUse rfl))) rfl rfl ?_
  intro C
  refine LWP.ends (tabM_open fun Hs He Hr vE vC vP ps h1 h2 h3 hI hm => ?_)
  obtain ⟨db, cap, rfl, hR⟩ := entV_reads (Y := tH X Hs He Hr) hI.ents (hm.1 rfl) (tH_e h3)
  have hC := kClEn (tH X Hs He Hr) db cap (t.l.map Rw.e) hR (by rw [List.length_map]; omega)
  have hll : (t.l.map Rw.e).length = t.l.length := List.length_map _
  rw [← hll]
  show LWP _ _ _ _ _ _
  unfold entsT
  generalize t.l.map Rw.e = l at *
  (refine LWP.seq <| rgN <| kas rfl <| RunK.nil <| LWP.seq <| LWP.seq <| rgN <| kmv rfl <| K.ptrNil rfl (by kernel_rfl) (.inl ⟨rfl, rfl⟩) .plain <| RunK.nil <| LWP.condF rfl ?_; refine LWP.skip ?_; refine LWP.seq <| rgN <| kmv rfl <| K.nilCheck rfl .plain <| kfa rfl rfl ?_; refine kl1 rfl rfl rfl <| K.callMp [(1000001, 601)] (.sv (.one (.slc 601 0 l.length 1))) [enB 601 l] (hC) rfl rfl (by exact trivial) rfl rfl rfl rfl rfl (by exact (.box rfl (Box.ren_vals _ _ _ _) .nil)) .plain <| kas rfl <| RunK.nil <| LWP.ret ?_)
  refine Leads.le (σ' := ⟨[(2, .sv (.one (.slc 601 0 l.length 1)))], [tS 1000000 t (vS (some ⟨db, 0, none⟩) l.length cap) vC vP, enB 601 l], tH X Hs He Hr⟩) (Le.of (by exact ⟨rfl, trivial⟩) (by exact ⟨rfl, rfl, trivial⟩) (by exact rfl) (by exact rfl) (by repeat' (first | refine all_cons_true ?_ ?_ | rfl | exact bytes_inUse | exact vals_inUse | exact mid_inUse rfl))) ?_
  refine tabM_shut h1 h2 h3 hI hm (Leads.done ?_)
  exact ⟨[(1000001, 601)], ⟨[_], ⟨rfl, trivial⟩, rfl⟩, (by repeat' (first | exact trivial | refine And.intro ⟨_, rfl, ?_⟩ ?_ | refine And.intro ⟨_, rfl⟩ ?_ | rfl | exact Box.ren_bytes _ _ _ _ | exact Box.ren_vals _ _ _ _ | exact Box.ren_mid rfl)), rfl, rfl⟩
theorem tM_nil {t : Tb} {ρ : Nat × Nat} {H : Nat → Option Obj} (h : (tbM false t).holds ρ H) : t.l = [] := by
  obtain ⟨_, _, _, _, _, vE, _, _, _, _, _, _, _, hI, hm⟩ := h
  have hv : vE = nilSlc := Classical.byContradiction fun e => by have := hm.2 e; cases this
  rcases hI.ents with ⟨_, h⟩ | ⟨db, len, cap, arr, fr, rfl, _⟩
  · exact List.map_eq_nil_iff.1 h
  · cases hv
end Go.Proofs.YtbpdbclndfmcgaaGreatDoor
end
section
namespace Go.Proofs.YtbpdbclndfmcgaaGreatDoor
open Go Go.Lg Go.Lg.Fld Go.Lg.Sg Go.Lg.Col
set_option maxRecDepth 100000
theorem dropL_map {α β : Type} (f : α → β) (l : List α) (i : Nat) : (dropL l i).map f = dropL (l.map f) i := by
  unfold dropL
  rw [List.length_map, List.getElem?_map]
  cases l[l.length - 1]? with
  | none => rfl
  | some x => simp only [Option.map_some, List.map_take, List.map_set]
theorem swapL_drop (L : List (List UInt8)) (i : Nat) : swapL L i = dropL L i := by
  unfold swapL dropL
  cases L[L.length - 1]? <;> rfl
def dropF (l : List Rw) (row i : Nat) (k : Nat) (c : Cp) : List (List UInt8) := if k < i then swapL (colL l k c) row else colL l k c
theorem entV_set {l : List Nat} {i x : Nat} : (entV l).set i (.int .u64 (x : Nat)) = entV (l.set i x) := by unfold entV; rw [List.map_set]
theorem entV_cut {l : List Nat} {i x : Nat} (hi : i < l.length) (hx : l[l.length - 1]? = some x) : entV (l.set i x) = entV (dropL l i) ++ [.int .u64 (x : Nat)] := by
  unfold dropL
  rw [hx]
  unfold entV
  have h1 : (l.set i x)[l.length - 1]? = some x := by
    by_cases e : i = l.length - 1
    · rw [← e, List.getElem?_set_self hi]
    · rw [List.getElem?_set_ne e]; exact hx
  have h2 : l.set i x = (l.set i x).take (l.length - 1) ++ [x] := by
    have hl : (l.set i x).length = l.length := List.length_set ..
    conv => lhs; rw [← List.take_append_drop (l.length - 1) (l.set i x)]
    congr 1
    rw [List.drop_eq_getElem_cons (by omega)]
    have : (l.set i x)[l.length - 1] = x := by
      have := List.getElem?_eq_getElem (l := l.set i x) (i := l.length - 1) (by omega)
      rw [h1] at this; exact (Option.some.inj this).symm
    rw [this, List.drop_eq_nil_of_le (by omega)]
  conv => lhs; rw [h2]
  rw [List.map_append]; rfl
variable (X : Nat → Option Obj)
theorem tDrop_no (t : Tb) (hk : TbOk t) (row : Int) (h : rowB t row = false) : MSpec Tryz.prog X 11 [Lp 1000000, Ln .i64 row] [tB 1000000 t] (.tup [Sn .u64 0, Sn .i64 3]) [tB 1000000 t] := by
  have _ := hk
  refine MSpec.intro Tryz.func11 rfl (by kernel_rfl) rfl rfl (by exact (by repeat' (first | refine all_cons_true ?_ ?_ | rfl | exact bytes_inUse | exact vals_inUse | exact mid_inUse rfl))) rfl rfl ?_
  intro C
  refine LWP.ends (tab_open fun Hs He Hr vE vC vP ps h1 h2 h3 hI => ?_)
  obtain ⟨ad, cap, rfl⟩ := hI.ents.slice
  rw [List.length_map] at hI ⊢
  have hs := seek0_no (tH X Hs He Hr) t ad t.l.length cap vC vP row (by unfold rowB at h; rw [Bool.and_eq_false_iff, decide_eq_false_iff_not, decide_eq_false_iff_not] at h; omega)
  (refine LWP.seq <| rgN <| kas rfl <| kas rfl <| RunK.nil <| LWP.seq <| LWP.seq <| rgN <| kmv rfl <| kmv rfl <| K.callR [(1000000, 1000000)] (hs) rfl rfl (by exact (And.intro ⟨_, rfl, rfl⟩ trivial)) (by exact (all_cons_true (all_cons_true rfl (all_cons_true rfl (all_cons_true rfl (all_cons_true rfl (all_cons_true rfl (all_cons_true rfl (all_cons_true rfl rfl))))))) rfl)) rfl rfl rfl rfl .plain <| kas rfl <| RunK.nil <| LWP.seq ?_; refine rgN <| kmv rfl <| kne rfl rfl (bne_iff_ne.2 (by omega)) <| RunK.nil <| LWP.condT rfl ?_; refine LWP.seq <| rgN <| kmv rfl <| kas rfl <| kas rfl <| RunK.nil <| LWP.ret ?_)
  refine tab_shut h1 h2 h3 hI (Leads.done ?_)
  exact ⟨[], ⟨[_, _], ⟨rfl, rfl, trivial⟩, rfl⟩, (by repeat' (first | exact trivial | refine And.intro ⟨_, rfl, ?_⟩ ?_ | refine And.intro ⟨_, rfl⟩ ?_ | rfl | exact Box.ren_bytes _ _ _ _ | exact Box.ren_vals _ _ _ _ | exact Box.ren_mid rfl)), rfl, rfl⟩
theorem moved_eq (t : Tb) {i : Nat} (hi : i < t.l.length) : (if 0 ≤ ((i : Nat) : Int) ∧ ((i : Nat) : Int) < (dropL (t.l.map Rw.e) i).length then (dropL (t.l.map Rw.e) i).getD (((i : Nat) : Int)).toNat 0 else 0) = movedT t i := by
  have hl : (t.l.map Rw.e).length = t.l.length := List.length_map _
  rw [dropL_len (by omega), hl, Int.toNat_natCast]
  unfold movedT
  by_cases e : i = t.l.length - 1
  · rw [if_pos e, if_neg (by omega)]
  · rw [if_neg e, if_pos (by omega), List.getD_eq_getElem?_getD, dropL_at (by omega) (by omega), if_pos rfl, hl, List.getElem?_map]
    unfold entT
    cases t.l[t.l.length - 1]? <;> rfl
set_option maxHeartbeats 6400000 in
theorem tDrop (t : Tb) (hk : TbOk t) (i : Nat) (h : i < t.l.length) : MSpec Tryz.prog X 11 [Lp 1000000, Ln .i64 (i : Nat)] [tB 1000000 t] (.tup [Sn .u64 (movedT t i : Nat), Sn .i64 0]) [tB 1000000 (dropT t i)] := by
  have h24 := t_len24 hk
  have hroom := hk.room
  have hmost := hk.most
  refine MSpec.intro Tryz.func11 rfl (by kernel_rfl) rfl rfl (by exact (by repeat' (first | refine all_cons_true ?_ ?_ | rfl | exact bytes_inUse | exact vals_inUse | exact mid_inUse rfl))) rfl rfl ?_
  intro C
  refine LWP.ends (tab_open fun Hs He Hr vE vC vP ps h1 h2 h3 hI => ?_)
  obtain ⟨ad, cap, rfl⟩ := hI.ents.slice
  have hll : (t.l.map Rw.e).length = t.l.length := List.length_map _
  obtain ⟨pad, pcap, rfl, hPt⟩ := hI.ptrs
  have hps : ps.length = (onlyC t.sc.cs t.set).length := by rw [hI.refs.len]; exact colsG_len _ _ _
  have hs := seek0 (tH X Hs He Hr) t ad (t.l.map Rw.e).length cap vC (.slice pad ps.length pcap) i (by omega)
  (refine LWP.seq <| rgN <| kas rfl <| kas rfl <| RunK.nil <| LWP.seq <| LWP.seq <| rgN <| kmv rfl <| kmv rfl <| K.callR [(1000000, 1000000)] (hs) rfl rfl (by exact (And.intro ⟨_, rfl, rfl⟩ trivial)) (by exact (all_cons_true (all_cons_true rfl (all_cons_true rfl (all_cons_true rfl (all_cons_true rfl (all_cons_true rfl (all_cons_true rfl (all_cons_true rfl rfl))))))) rfl)) rfl rfl rfl rfl .plain <| kas rfl <| RunK.nil <| LWP.seq ?_; refine rgN <| kmv rfl <| kne rfl rfl (r := false) rfl <| RunK.nil <| LWP.condF rfl ?_; refine LWP.skip ?_; refine LWP.seq <| LWP.seq <| rgN <| kmv rfl <| K.nilCheck rfl .plain <| kfa rfl rfl ?_; refine kl1 rfl rfl rfl <| K.lenX rfl SliceT.h rfl .plain ?_; refine kmv rfl <| RunK.nil <| LWP.block ?_)
  refine LWP.loopL (fun m σ => ∃ (j : Nat) (H : Nat → Option Obj), j ≤ ps.length ∧ m = ps.length - j ∧ OwnedM C (joinM (joinM X Hs) He) H ∧ Refs H ps (colsG (dropF t.l i j) t.most (onlyC t.sc.cs t.set)) ∧ σ = ⟨[(0, Lp 1000000), (1, Ln .i64 (i : Nat)), (19, .sv (.one (vS pad ps.length pcap))), (20, Ln .i64 (ps.length : Nat)), (21, Ln .i64 (j : Nat))], [tS 1000000 t (vS ad (t.l.map Rw.e).length cap) vC (.slice pad ps.length pcap)], joinM (joinM (joinM X Hs) He) H⟩) ps.length
    (Leads.le (σ' := ⟨[(0, Lp 1000000), (1, Ln .i64 (i : Nat)), (19, .sv (.one (vS pad ps.length pcap))), (20, Ln .i64 (ps.length : Nat)), (21, Ln .i64 (0 : Nat))], [tS 1000000 t (vS ad (t.l.map Rw.e).length cap) vC (.slice pad ps.length pcap)], tH X Hs He Hr⟩) (Le.of (by exact ⟨rfl, rfl, rfl, rfl, rfl, trivial⟩) (by exact ⟨rfl, trivial⟩) (by exact rfl) (by exact rfl) (by repeat' (first | refine all_cons_true ?_ ?_ | rfl | exact bytes_inUse | exact vals_inUse | exact mid_inUse rfl))) (Leads.done ⟨0, Hr, by omega, by omega, h3, by
      rw [show colsG (dropF t.l i 0) t.most (onlyC t.sc.cs t.set) = colsT t from colsG_congr fun k d _ => by unfold dropF; rw [if_neg (by omega)]]
      exact hI.refs, rfl⟩)) ?_
  rintro m σ ⟨j, H, hj, rfl, hO, hR, rfl⟩
  by_cases hlt : j < ps.length
  · obtain ⟨c, hc⟩ : ∃ c, (onlyC t.sc.cs t.set)[j]? = some c := ⟨_, List.getElem?_eq_getElem (by omega)⟩
    obtain ⟨b, hb⟩ : ∃ b, ps[j]? = some b := ⟨_, List.getElem?_eq_getElem hlt⟩
    obtain ⟨pblk, parr, pel, pfr, rfl, hPX, hPa⟩ := hPt j b hb
    have hPX2 : joinM (joinM (joinM X Hs) He) H pblk = some (.cells parr pel pfr) := tH_s h2 hO _ _ hPX
    have hio : 0 + Int.toNat (j : Int) * 1 = j := by simp
    have hadd : IntKind.i64.wrap (((j : Nat) : Int) + 1) = ((j + 1 : Nat) : Int) := by rw [wrap_i64 (by omega)]; omega
    (refine LWP.seq <| rgN <| klt rfl rfl (decide_eq_true (by omega)) <| RunK.nil <| LWP.seq <| LWP.condT rfl ?_; refine LWP.skip ?_; refine LWP.seq <| LWP.block <| LWP.seq <| rgN <| K.indexX rfl rfl SliceT.h (by omega) hio .plain <| K.loadX rfl hPX2 rfl hPa .plain <| kas rfl <| RunK.nil ?_)
    refine LWP.le (σ' := ⟨[(8, Vp b), (0, Lp 1000000), (1, Ln .i64 (i : Nat)), (19, .sv (.one (vS (some ⟨pblk, 0, none⟩) ps.length pcap))), (20, Ln .i64 (ps.length : Nat)), (21, Ln .i64 (j : Nat))], [tS 1000000 t (vS ad (t.l.map Rw.e).length cap) vC (.slice (some ⟨pblk, 0, none⟩) ps.length pcap)], joinM (joinM (joinM X Hs) He) H⟩) (Le.of (by exact ⟨rfl, rfl, rfl, rfl, rfl, rfl, trivial⟩) (by exact ⟨rfl, trivial⟩) (by exact rfl) (by exact rfl) (by repeat' (first | refine all_cons_true ?_ ?_ | rfl | exact bytes_inUse | exact vals_inUse | exact mid_inUse rfl))) ?_
    refine tcol_open (kk := 501) hO hR (colsG_at hc) rfl rfl rfl (by omega) fun b' H0 hb' hO0 hback => ?_
    rw [hb] at hb'
    cases hb'
    have hf : dropF t.l i j j c = colL t.l j c := if_neg (by omega)
    have hcl : (colL t.l j c).length = t.l.length := List.length_map _
    have hnew : dropF t.l i (j + 1) j c = swapL (colL t.l j c) i := if_pos (by omega)
    have hg := (cSwap_ok (joinM (joinM (joinM X Hs) He) H0) (rowSize c.fs) t.most (colL t.l j c) i (by omega) rfl).at (b := b)
    have hroot := colR_root (rowSize c.fs) t.most (swapL (colL t.l j c) i)
    rw [hf]
    (refine rgN <| kmv rfl <| kmv rfl <| K.callM [(1000000, 501)] [atB 501 b (rowSize c.fs) t.most (swapL (colL t.l j c) i)] (hg) rfl rfl (by exact (And.intro ⟨_, rfl, rfl⟩ trivial)) (by exact (all_cons_true rfl rfl)) rfl rfl rfl rfl (by exact (.box rfl rfl .nil)) .plain <| RunK.nil <| rgN <| kad rfl rfl hadd <| kmv rfl <| RunK.nil ?_)
    refine Leads.le (σ' := ⟨[(0, Lp 1000000), (1, Ln .i64 (i : Nat)), (19, .sv (.one (vS (some ⟨pblk, 0, none⟩) ps.length pcap))), (20, Ln .i64 (ps.length : Nat)), (21, Ln .i64 (j + 1 : Nat))], [atB 501 b (rowSize c.fs) t.most (swapL (colL t.l j c) i), tS 1000000 t (vS ad (t.l.map Rw.e).length cap) vC (.slice (some ⟨pblk, 0, none⟩) ps.length pcap)], joinM (joinM (joinM X Hs) He) H0⟩) (Le.of (by exact ⟨rfl, rfl, rfl, rfl, rfl, trivial⟩) (by exact ⟨rfl, rfl, trivial⟩) (by exact rfl) (by exact rfl) (by repeat' (first | refine all_cons_true ?_ ?_ | rfl | exact bytes_inUse | exact vals_inUse | exact mid_inUse rfl))) ?_
    refine tcol_shut hO0 hroot rfl rfl rfl fun m' Hc' g1 g2 g3 g4 => ?_
    have hB := hback _ m' Hc' g1 g2 g3
    rw [← hnew, colsG_set hc (g := dropF t.l i (j + 1)) fun k d hk' _ => by
      unfold dropF
      by_cases e : k < j
      · rw [if_pos e, if_pos (by omega)]
      · rw [if_neg e, if_neg (by omega)]] at hB
    exact Leads.done ⟨ps.length - (j + 1), by omega, j + 1, _, by omega, rfl, g4, hB, rfl⟩
  · have e : j = ps.length := by omega
    subst e
    have hRn : Refs H ps (colsT (dropT t i)) := by
      have : colsT (dropT t i) = colsG (dropF t.l i ps.length) t.most (onlyC t.sc.cs t.set) := by
        show colsG (colL (dropL t.l i)) t.most (onlyC t.sc.cs t.set) = _
        refine colsG_congr fun k d hd => ?_
        have := (List.getElem?_eq_some_iff.1 hd).1
        unfold dropF colL
        rw [if_pos (by omega), swapL_drop, dropL_map]
      rw [this]; exact hR
    obtain ⟨x, hx⟩ : ∃ x, (t.l.map Rw.e)[(t.l.map Rw.e).length - 1]? = some x := ⟨_, List.getElem?_eq_getElem (by omega)⟩
    have hid : i < (t.l.map Rw.e).length := by omega
    have hmv := moved_eq t h
    have hents : (dropT t i).l.map Rw.e = dropL (t.l.map Rw.e) i := dropL_map Rw.e t.l i
    have hdl : (dropL (t.l.map Rw.e) i).length = (t.l.map Rw.e).length - 1 := dropL_len hid
    have hb256 : (t.l.map Rw.e).length ≤ 256 := by omega
    obtain ⟨hsw1, hsw2, hsw3⟩ := OwnedM.swap h2 hO
    have hE := hI.ents
    rw [hsw3]
    generalize t.l.map Rw.e = L at *
    have hsub : IntKind.i64.wrap (((L.length : Nat) : Int) - 1) = ((L.length - 1 : Nat) : Int) := by rw [wrap_i64 (by omega)]; omega
    (refine LWP.seq <| rgN <| klt rfl rfl (decide_eq_false (by omega)) <| RunK.nil <| LWP.seq <| LWP.condF rfl ?_; refine LWP.exit <| LWP.seq <| rgN <| kmv rfl <| K.nilCheck rfl .plain <| kfa rfl rfl ?_; refine kl1 rfl rfl rfl <| K.lenX rfl SliceT.h rfl .plain ?_; refine K.sub rfl rfl hsub .plain <| kas rfl <| RunK.nil <| LWP.seq ?_)
    refine LWP.le (σ' := ⟨[(0, Lp 1000000), (1, Ln .i64 (i : Nat)), (9, Ln .i64 (L.length - 1 : Nat))], [tS 1000000 t (vS ad L.length cap) vC (.slice pad ps.length pcap)], joinM (joinM (joinM X Hs) H) He⟩) (Le.of (by exact ⟨rfl, rfl, rfl, trivial⟩) (by exact ⟨rfl, trivial⟩) (by exact rfl) (by exact rfl) (by repeat' (first | refine all_cons_true ?_ ?_ | rfl | exact bytes_inUse | exact vals_inUse | exact mid_inUse rfl))) ?_
    obtain ⟨db, hd⟩ : ∃ db, LeadsTo He db (.slice ad L.length cap) 37 1 (entV L) := by
      rcases hE with ⟨_, e⟩ | hd
      · rw [e] at hid; cases hid
      · exact hd
    have hel : (entV L).length = L.length * 1 := by unfold entV; rw [List.length_map]; omega
    refine LWP.openCell (A := [.val (.int .u32 (t.set : Nat)), .val (.int .i64 (t.most : Nat)), .val (.int .i64 (t.kept : Nat))]) (B := [.val (.int .i64 t.sc.ver), .val vC, .val (.slice pad ps.length pcap)]) (k := 501) (sz := 1) (len := L.length) hsw2 hd hel (by omega) rfl rfl rfl rfl rfl ?_
    have hix1 : 0 + Int.toNat ((L.length - 1 : Nat) : Int) * 1 = L.length - 1 := by rw [Int.toNat_natCast]; omega
    have hix2 : 0 + Int.toNat ((i : Nat) : Int) * 1 = i := by rw [Int.toNat_natCast]; omega
    have hcell : ((entV L).map CV.val)[L.length - 1]? = some (.val (.int .u64 (x : Nat))) := by unfold entV; rw [List.getElem?_map, List.getElem?_map, hx]; rfl
    have hblt : Nat.blt i ((entV L).map CV.val).length = true := by rw [Nat.blt_eq, List.length_map]; omega
    have hput : ((entV L).map CV.val).set i (.val (.int .u64 (x : Nat))) = (entV (dropL L i)).map CV.val ++ .val (.int .u64 (x : Nat)) :: ([] : List Value).map CV.val := by rw [← List.map_set, entV_set, entV_cut hid hx, List.map_append]; rfl
    (refine rgD mixed <| kmv rfl <| K.nilCheck rfl .plain <| kfa rfl rfl ?_; refine kl1 rfl rfl rfl <| kmv rfl <| kmv rfl <| K.nilCheck rfl .plain <| kfa rfl rfl ?_; refine kl1 rfl rfl rfl <| kmv rfl <| K.indexSlc rfl rfl (by omega) hix1 .plain ?_; refine kl1 rfl rfl hcell <| K.indexSlc rfl rfl (by omega) hix2 .plain ?_; refine K.storeOne rfl rfl rfl rfl hblt hput .plain <| RunK.nil <| rgA ?_; refine LWP.seq <| rgN <| kmv rfl <| kmv rfl <| K.nilCheck rfl .plain <| kfa rfl rfl ?_; refine kl1 rfl rfl rfl <| kmv rfl <| K.cutSlc rfl rfl SliceT.h (by omega) .plain <| K.nilCheck rfl .plain <| kfa rfl rfl ?_; refine K.storeOne rfl rfl rfl rfl rfl (nl7 rfl rfl rfl rfl rfl rfl rfl rfl) .plain <| RunK.nil <| LWP.seq ?_)
    refine LWP.le (σ' := ⟨[(0, Lp 1000000), (1, Ln .i64 (i : Nat))], [(501, some ⟨37, (entV (dropL L i)).map CV.val ++ .val (.int .u64 (x : Nat)) :: ([] : List Value).map CV.val, true⟩), tS 1000000 t (.slc 501 0 (L.length - 1) 1) vC (.slice pad ps.length pcap)], joinM (joinM (joinM X Hs) H) (cutM He db)⟩) (Le.of (by exact ⟨rfl, rfl, trivial⟩) (by exact ⟨rfl, rfl, trivial⟩) (by exact rfl) (by exact rfl) (by repeat' (first | refine all_cons_true ?_ ?_ | rfl | exact bytes_inUse | exact vals_inUse | exact mid_inUse rfl))) ?_
    refine LWP.le Le.trim ?_
    refine LWP.le (σ' := ⟨[(0, Lp 1000000), (1, Ln .i64 (i : Nat))], [(1000000, some ⟨92, [.val (.int .u32 (t.set : Nat)), .val (.int .i64 (t.most : Nat)), .val (.int .i64 (t.kept : Nat))] ++ .slc 501 0 (L.length - 1) 1 :: [.val (.int .i64 t.sc.ver), .val vC, .val (.slice pad ps.length pcap)], false⟩), (501, some ⟨37, (entV (dropL L i)).map CV.val, true⟩)], joinM (joinM (joinM X Hs) H) (cutM He db)⟩) (Le.of (by exact ⟨rfl, rfl, trivial⟩) (by exact ⟨rfl, rfl, trivial⟩) (by exact rfl) (by exact rfl) (by repeat' (first | refine all_cons_true ?_ ?_ | rfl | exact bytes_inUse | exact vals_inUse | exact mid_inUse rfl))) ?_
    have hdl2 : (entV (dropL L i)).length = (L.length - 1) * 1 := by unfold entV; rw [List.length_map, hdl]; omega
    refine LWP.closeCell (hsw2.cut db) hdl2 rfl rfl rfl rfl rfl rfl fun b o v g1 g2 g3 g4 => ?_
    have hE2 : EntsAt (withBlock (cutM He db) b o) v (dropL L i) := .inr ⟨b, g4⟩
    have hent := ent0 (joinM (joinM (joinM X Hs) H) (withBlock (cutM He db) b o)) t v vC (.slice pad ps.length pcap) (dropL L i) (i : Nat) (hE2.mono fun x o hx => joinM_in hx) (by omega)
    rw [hmv] at hent
    generalize movedT t i = mv at *
    (refine rgN <| kmv rfl <| kmv rfl <| K.callR [(1000000, 1000000)] (hent) rfl rfl (by exact (And.intro ⟨_, rfl, rfl⟩ trivial)) (by exact (all_cons_true (all_cons_true rfl (all_cons_true rfl (all_cons_true rfl (all_cons_true rfl (all_cons_true rfl (all_cons_true rfl (all_cons_true rfl rfl))))))) rfl)) rfl rfl rfl rfl .plain <| kas rfl <| kas rfl <| RunK.nil <| LWP.ret ?_)
    obtain ⟨k1, k2, k3⟩ := OwnedM.swap hsw1 g3
    refine Leads.le (σ' := ⟨[(4, Ln .u64 (mv : Nat)), (5, Ln .i64 0)], [tS 1000000 (dropT t i) (.val v) vC (.slice pad ps.length pcap)], tH X Hs (withBlock (cutM He db) b o) H⟩) (by unfold tH; rw [← k3]; exact Le.of (by exact ⟨rfl, rfl, trivial⟩) (by exact ⟨rfl, trivial⟩) (by exact rfl) (by exact rfl) (by repeat' (first | refine all_cons_true ?_ ?_ | rfl | exact bytes_inUse | exact vals_inUse | exact mid_inUse rfl))) ?_
    refine tab_shut h1 k1 k2 ⟨hI.sc, ⟨pad, pcap, rfl, hPt⟩, hRn, by rw [hents]; exact hE2, fun r hr => hI.two r (dropL_mem hr)⟩ (Leads.done ?_)
    exact ⟨[], ⟨[_, _], ⟨rfl, rfl, trivial⟩, rfl⟩, (by repeat' (first | exact trivial | refine And.intro ⟨_, rfl, ?_⟩ ?_ | refine And.intro ⟨_, rfl⟩ ?_ | rfl | exact Box.ren_bytes _ _ _ _ | exact Box.ren_vals _ _ _ _ | exact Box.ren_mid rfl)), rfl, rfl⟩
end Go.Proofs.YtbpdbclndfmcgaaGreatDoor
end
section
namespace Go.Proofs.YtbpdbclndfmcgaaGreatDoor
open Go Go.Lg Go.Lg.Fld Go.Lg.Sg Go.Lg.Col
set_option maxRecDepth 100000
theorem filter_or {α : Type} {a b : α → Bool} (h : ∀ x, a x = true → b x = true → False) : ∀ l : List α, (l.filter fun x => a x || b x).length = (l.filter a).length + (l.filter b).length
  | [] => rfl
  | x :: t => by
    have ih := filter_or h t
    rw [List.filter_cons, List.filter_cons, List.filter_cons]
    cases ha : a x <;> cases hb : b x
    · simpa using ih
    · simp only [Bool.false_or, if_true, List.length_cons]; simp only [Bool.false_eq_true, if_false]; omega
    · simp only [Bool.true_or, if_true, List.length_cons]; simp only [Bool.false_eq_true, if_false]; omega
    · exact (h x ha hb).elim
theorem hits_sum (l : List Pt) : ∀ {ids : List Int}, ids.Pairwise (· < ·) → (sortP ids l).length = (l.filter fun p => ids.any fun x => x == p.comp).length
  | [], _ => by
    show 0 = _
    rw [show (l.filter fun p => ([] : List Int).any fun x => x == p.comp) = [] from List.filter_eq_nil_iff.2 fun x _ => by simp]; rfl
  | id :: ids, h => by
    obtain ⟨h1, h2⟩ := List.pairwise_cons.1 h
    have ih := hits_sum l h2
    have := filter_or (a := fun p : Pt => id == p.comp) (b := fun p => ids.any fun x => x == p.comp) (fun p ha hb => by
      rw [beq_iff_eq] at ha
      obtain ⟨y, hy, e⟩ := List.any_eq_true.1 hb
      rw [beq_iff_eq] at e
      have := h1 y hy
      omega) l
    simp only [List.any_cons]
    rw [this, ← ih]
    unfold sortP
    rw [List.map_cons, List.flatten_cons, List.length_append]
    congr 2
    unfold hitsP
    exact List.filter_congr fun p _ => by rw [Bool.eq_iff_iff, beq_iff_eq, beq_iff_eq]; exact eq_comm
theorem hits_more (l : List Pt) : ∀ {ids : List Int}, (∀ id ∈ ids, 1 ≤ (hitsP l id).length) → ids.length ≤ (sortP ids l).length
  | [], _ => Nat.zero_le _
  | id :: ids, h => by
    have h1 := h id (List.mem_cons_self ..)
    have ih := hits_more l (ids := ids) fun x hx => h x (List.mem_cons_of_mem _ hx)
    unfold sortP at ih ⊢
    rw [List.map_cons, List.flatten_cons, List.length_append, List.length_cons]; omega
theorem hits_ones (l : List Pt) : ∀ {ids : List Int}, (∀ id ∈ ids, 1 ≤ (hitsP l id).length) → (sortP ids l).length ≤ ids.length → ∀ id ∈ ids, (hitsP l id).length = 1
  | [], _, _ => fun _ h => by cases h
  | id :: ids, h, hs => by
    have h1 := h id (List.mem_cons_self ..)
    have hr : ∀ x ∈ ids, 1 ≤ (hitsP l x).length := fun x hx => h x (List.mem_cons_of_mem _ hx)
    have h2 := hits_more l hr
    unfold sortP at hs h2
    rw [List.map_cons, List.flatten_cons, List.length_append, List.length_cons] at hs
    intro x hx
    rcases List.mem_cons.1 hx with rfl | hx
    · omega
    · exact hits_ones l hr (by unfold sortP; omega) x hx
theorem just_sig {set : Nat} (hs : set < 4294967296) (hb : isB set = true) (l : List Pt) : (prE (l.map fun p => p.comp) = 0 ∧ prN (l.map fun p => p.comp) = set) ↔ justP (idsL set) l = true := by
  have hll : (l.map fun p => p.comp).length = l.length := List.length_map _
  rw [just_iff]
  constructor
  · rintro ⟨h1, h2⟩
    unfold prN at h2
    rw [if_pos h1] at h2
    unfold prE at h1
    by_cases ho : okIds (l.map fun p => p.comp) = true
    case neg => rw [if_neg ho] at h1; cases h1
    rw [if_pos ho] at h1
    have ht : twiceTo (l.map fun p => p.comp) (l.map fun p => p.comp).length = false := by
      cases hc : twiceTo (l.map fun p => p.comp) (l.map fun p => p.comp).length with
      | false => rfl
      | true => rw [hc] at h1; cases h1
    have htw := twice_len ho
    rw [ht, h2, bne_eq_false_iff_eq, hll] at htw
    have hlen : l.length = (idsL set).length := by omega
    refine ⟨hlen, hits_ones l (fun id hid => ?_) ?_⟩
    · rw [← h2] at hid
      obtain ⟨p, hp, he⟩ := List.mem_map.1 ((mem_ofN ho id).1 hid)
      exact List.length_pos_of_mem (List.mem_filter.2 ⟨hp, by rw [beq_iff_eq]; exact he⟩)
    · rw [hits_sum l (idsL_sorted set), ← hlen]
      exact List.length_filter_le _ _
  · rintro ⟨h1, h2⟩
    have hsum := sort_len (ids := idsL set) (l := l) (just_iff.2 ⟨h1, h2⟩)
    rw [hits_sum l (idsL_sorted set)] at hsum
    have hall : ∀ p ∈ l, p.comp ∈ idsL set := fun p hp => by
      have := List.filter_eq_self.1 (List.filter_sublist.eq_of_length (by rw [hsum, h1] : (l.filter fun p => (idsL set).any fun x => x == p.comp).length = l.length)) p hp
      obtain ⟨y, hy, e⟩ := List.any_eq_true.1 this
      rw [← beq_iff_eq.1 e]; exact hy
    have ho : okIds (l.map fun p => p.comp) = true := List.all_eq_true.2 fun x hx => by
      obtain ⟨p, hp, rfl⟩ := List.mem_map.1 hx
      obtain ⟨g1, g2, _⟩ := mem_ids.1 (hall p hp)
      exact okI_iff.2 ⟨g1, by omega⟩
    have hids : idsL (ofN (l.map fun p => p.comp)) = idsL set := sorted_ext (idsL_sorted _) (idsL_sorted _) fun x => by
      rw [mem_ofN ho]
      constructor
      · intro hx
        obtain ⟨p, hp, rfl⟩ := List.mem_map.1 hx
        exact hall p hp
      · intro hx
        obtain ⟨p, _, hp, he⟩ := hits_one (h2 x hx)
        exact List.mem_map.2 ⟨p, hp, he⟩
    have hof : ofN (l.map fun p => p.comp) = set := by
      have hok : ∀ id ∈ (l.map fun p => p.comp), okJ id = true := List.all_eq_true.1 ho
      rw [← ofN_ids (ofN_isB hok) (by have := ofN_lt hok; omega), hids, ofN_ids hb hs]
    have htw := twice_len ho
    rw [hids, hll, bne_eq_false_iff_eq.2 (by omega)] at htw
    have hE : prE (l.map fun p => p.comp) = 0 := by unfold prE; rw [if_pos ho, hll, ← htw]; rfl
    exact ⟨hE, by unfold prN; rw [if_pos hE]; exact hof⟩
theorem just_in {set : Nat} {l : List Pt} (h : justP (idsL set) l = true) : ∀ p ∈ l, p.comp ∈ idsL set := fun p hp => by
  obtain ⟨h1, h2⟩ := just_iff.1 h
  have hsum := sort_len h
  rw [hits_sum l (idsL_sorted set)] at hsum
  have := List.filter_eq_self.1 (List.filter_sublist.eq_of_length (by rw [hsum, h1] : (l.filter fun p => (idsL set).any fun x => x == p.comp).length = l.length)) p hp
  obtain ⟨y, hy, e⟩ := List.any_eq_true.1 this
  rw [← beq_iff_eq.1 e]; exact hy
theorem find_only {cs : List Cp} {set : Nat} {x : Int} (h : hasB set x = true) : (onlyC cs set).find? (fun c => c.id == x) = cs.find? (fun c => c.id == x) := by
  unfold onlyC
  rw [List.find?_filter]
  congr 1
  funext c
  by_cases e : c.id = x
  · rw [e, h]; simp
  · rw [beq_eq_false_iff_ne.2 e]; simp
theorem parts_only {cs : List Cp} {set : Nat} {l : List Pt} (h : justP (idsL set) l = true) : partsE (onlyC cs set) l = partsE cs l := by
  unfold partsE
  congr 1
  funext i
  unfold ptE
  cases hp : l[i]? with
  | none => rfl
  | some p =>
    have hm := just_in h p (List.mem_of_getElem? hp)
    have hb : hasB set p.comp = true := by rw [← any_ids, List.any_eq_true]; exact ⟨_, hm, beq_iff_eq.2 rfl⟩
    simp only
    have : partE (onlyC cs set) p = partE cs p := by unfold partE; rw [find_only hb]
    rw [this]
theorem just_one {set : Nat} {l : List Pt} (h : justP (idsL set) l = true) {j : Nat} {p : Pt} (hj : l[j]? = some p) : (l.take j).find? (fun q => q.comp == p.comp) = none := by
  have h1 := (just_iff.1 h).2 _ (just_in h p (List.mem_of_getElem? hj))
  rw [List.find?_eq_none]
  intro q hq he
  have hsp : l = l.take j ++ p :: l.drop (j + 1) := mid_of hj
  unfold hitsP at h1
  rw [hsp, List.filter_append, List.filter_cons, if_pos (by simp), List.length_append, List.length_cons] at h1
  have : 0 < ((l.take j).filter fun x => x.comp == p.comp).length := List.length_pos_of_mem (List.mem_filter.2 ⟨hq, he⟩)
  omega
theorem sort_at {l : List Pt} : ∀ {ids : List Int} {k : Nat} {id : Int}, (∀ x ∈ ids, (hitsP l x).length = 1) → ids[k]? = some id → ∃ p, (sortP ids l)[k]? = some p ∧ hitsP l id = [p]
  | x :: ids, 0, id, h, hk => by
    simp only [List.getElem?_cons_zero, Option.some.injEq] at hk
    subst hk
    obtain ⟨p, hp, _, _⟩ := hits_one (h x (List.mem_cons_self ..))
    refine ⟨p, ?_, hp⟩
    unfold sortP
    rw [List.map_cons, List.flatten_cons, hp]; rfl
  | x :: ids, k + 1, id, h, hk => by
    simp only [List.getElem?_cons_succ] at hk
    obtain ⟨p, hp, h2⟩ := sort_at (l := l) (fun y hy => h y (List.mem_cons_of_mem _ hy)) hk
    obtain ⟨q, hq, _, _⟩ := hits_one (h x (List.mem_cons_self ..))
    refine ⟨p, ?_, h2⟩
    unfold sortP at hp ⊢
    rw [List.map_cons, List.flatten_cons, hq]
    exact hp
  | [], _, _, _, hk => by simp at hk
def addF (l : List Rw) (ps : List Pt) (j : Nat) (k : Nat) (c : Cp) : List (List UInt8) := colL l k c ++ match (ps.take j).find? (fun p => p.comp == c.id) with | some p => [packB c.fs p.val] | none => []
theorem addF_zero (l : List Rw) (ps : List Pt) (k : Nat) (c : Cp) : addF l ps 0 k c = colL l k c := by unfold addF; simp
theorem addF_here {set : Nat} {l : List Rw} {ps : List Pt} (h : justP (idsL set) ps = true) {j k : Nat} {p : Pt} {c : Cp} (hj : ps[j]? = some p) (hc : c.id = p.comp) : addF l ps j k c = colL l k c ∧ addF l ps (j + 1) k c = colL l k c ++ [packB c.fs p.val] := by
  have h1 := just_one h hj
  unfold addF
  rw [hc, h1]
  refine ⟨List.append_nil _, ?_⟩
  rw [take_snoc hj, List.find?_append, h1]
  simp
theorem addF_there {l : List Rw} {ps : List Pt} {j k : Nat} {p : Pt} {c : Cp} (hj : ps[j]? = some p) (hc : c.id ≠ p.comp) : addF l ps (j + 1) k c = addF l ps j k c := by
  unfold addF
  rw [take_snoc hj, List.find?_append, show ([p].find? fun q => q.comp == c.id) = none by simp [beq_eq_false_iff_ne.2 (Ne.symm hc)]]
  simp
theorem addF_all {t : Tb} (hk : TbOk t) {ps : List Pt} (h : justP (idsL t.set) ps = true) (e : Nat) {k : Nat} {c : Cp} (hc : (onlyC t.sc.cs t.set)[k]? = some c) : addF t.l ps ps.length k c = colL (t.l ++ [⟨e, sortP (idsL t.set) ps⟩]) k c := by
  obtain ⟨p, hp, hh⟩ := sort_at (l := ps) (just_iff.1 h).2 (k := k) (id := c.id) (by rw [← t_ids hk, List.getElem?_map, hc]; rfl)
  unfold addF colL
  rw [List.take_length, List.map_append, List.map_cons, List.map_nil]
  congr 1
  have hf : ps.find? (fun q => q.comp == c.id) = some p := by rw [← List.head?_filter]; unfold hitsP at hh; rw [hh]; rfl
  rw [hf]
  unfold valR
  simp only
  rw [hp]
end Go.Proofs.YtbpdbclndfmcgaaGreatDoor
end
section
namespace Go.Proofs.YtbpdbclndfmcgaaGreatDoor
open Go Go.Lg Go.Lg.Fld Go.Lg.Sg Go.Lg.Col
set_option maxRecDepth 100000
variable (X : Nat → Option Obj)
set_option maxHeartbeats 3200000 in
theorem checkAdd0 (t : Tb) (hk : TbOk t) (ad pad cad : Option Addr) (cap pcap cc : Nat) (vP : Value) (e : Nat) (l : List Pt) (hin : CompsIn X cad (onlyC t.sc.cs t.set)) (hP : PartsIn X pad l) (hl : l.length ≤ 12) (he : e < 18446744073709551616) :
    MSpec Tryz.prog X 44 [Lp 1000000, Ln .u64 (e : Nat), Lx pad l.length pcap] [tS 1000000 t (vS ad t.l.length cap) (.slice cad (onlyC t.sc.cs t.set).length cc) vP] (Ln .i64 (addE t e l)) [tS 1000000 t (vS ad t.l.length cap) (.slice cad (onlyC t.sc.cs t.set).length cc) vP] := by
  have _ := he
  have hG := gParts X l pad pcap hP (by omega)
  have hj := just_sig hk.set.1 hk.set.2 l
  have hpo := parts_only (cs := t.sc.cs) (set := t.set) (l := l)
  have h24 := t_len24 hk
  have hPs := pPartsBig X t.sc.ver cad pad cc pcap (onlyC t.sc.cs t.set) l hin (by omega) (fun c hc => by
    obtain ⟨i, hi⟩ := List.mem_iff_getElem?.1 hc
    have := (t_size hk hi).1
    omega) hP (by omega) _ rfl
  have hR := room0 X t ad t.l.length cap (.slice cad (onlyC t.sc.cs t.set).length cc) vP hk.room hk.most.2
  rw [show t.most - t.l.length - t.kept = roomT t from rfl] at hR
  have hset := hk.set.1
  refine MSpec.intro Tryz.func44 rfl (by kernel_rfl) rfl rfl (by exact (by repeat' (first | refine all_cons_true ?_ ?_ | rfl | exact bytes_inUse | exact vals_inUse | exact mid_inUse rfl))) rfl rfl ?_
  intro C
  unfold addE
  generalize prE (l.map fun p => p.comp) = pe at *
  generalize prN (l.map fun p => p.comp) = pn at *
  by_cases h1 : e = 0
  · rw [if_pos h1]
    subst h1
    (refine LWP.seq <| rgN <| kas rfl <| RunK.nil <| LWP.seq <| LWP.block <| LWP.seq <| rgN <| kmv rfl <| K.ptrNil rfl (by kernel_rfl) (.inl ⟨rfl, rfl⟩) .plain <| kas rfl <| RunK.nil <| LWP.condF rfl ?_; refine LWP.seq <| rgN <| kmv rfl <| keq rfl rfl (r := true) rfl <| kas rfl <| RunK.nil <| LWP.condT rfl ?_; refine LWP.seq <| rgN <| kas rfl <| RunK.nil <| LWP.ret ?_)
    exact ⟨[], ⟨[_], ⟨rfl, trivial⟩, rfl⟩, (by repeat' (first | exact trivial | refine And.intro ⟨_, rfl, ?_⟩ ?_ | refine And.intro ⟨_, rfl⟩ ?_ | rfl | exact Box.ren_bytes _ _ _ _ | exact Box.ren_vals _ _ _ _ | exact Box.ren_mid rfl)), rfl, rfl⟩
  rw [if_neg h1]
  have he0 : ((((e : Nat) : Int)) == 0) = false := beq_eq_false_iff_ne.2 (by omega)
  by_cases h2 : justP (idsL t.set) l = true
  case neg =>
    rw [if_neg h2]
    by_cases hpe : pe = 0
    · subst hpe
      have hne : ((((pn : Nat) : Int)) != (t.set : Nat)) = true := bne_iff_ne.2 fun e => h2 (hj.1 ⟨rfl, by omega⟩)
      (refine LWP.seq <| rgN <| kas rfl <| RunK.nil <| LWP.seq <| LWP.block <| LWP.seq <| rgN <| kmv rfl <| K.ptrNil rfl (by kernel_rfl) (.inl ⟨rfl, rfl⟩) .plain <| kas rfl <| RunK.nil <| LWP.condF rfl ?_; refine LWP.seq <| rgN <| kmv rfl <| keq rfl rfl he0 <| kas rfl <| RunK.nil <| LWP.condF rfl ?_; refine LWP.skip ?_; refine LWP.seq <| LWP.seq <| rgN <| kmv rfl <| kca rfl rfl hG <| kmv rfl <| kex rfl rfl <| kex rfl rfl <| kas rfl <| kas rfl <| RunK.nil <| LWP.seq <| rgN <| kmv rfl ?_; refine kne rfl rfl (r := false) rfl <| kmv rfl <| gmv rfl rfl rfl <| gmv rfl rfl rfl <| K.nilCheck rfl (.taken rfl rfl) ?_; refine K.fieldAddr rfl rfl (.taken rfl rfl) ?_; refine K.loadOne rfl rfl rfl (.taken rfl rfl) ?_; refine K.neq rfl rfl hne (.taken rfl rfl) ?_; refine kpf rfl rfl <| RunK.nil <| LWP.condT rfl ?_; refine LWP.seq <| rgN <| kas rfl <| RunK.nil <| LWP.ret ?_)
      exact ⟨[], ⟨[_], ⟨rfl, trivial⟩, rfl⟩, (by repeat' (first | exact trivial | refine And.intro ⟨_, rfl, ?_⟩ ?_ | refine And.intro ⟨_, rfl⟩ ?_ | rfl | exact Box.ren_bytes _ _ _ _ | exact Box.ren_vals _ _ _ _ | exact Box.ren_mid rfl)), rfl, rfl⟩
    · (refine LWP.seq <| rgN <| kas rfl <| RunK.nil <| LWP.seq <| LWP.block <| LWP.seq <| rgN <| kmv rfl <| K.ptrNil rfl (by kernel_rfl) (.inl ⟨rfl, rfl⟩) .plain <| kas rfl <| RunK.nil <| LWP.condF rfl ?_; refine LWP.seq <| rgN <| kmv rfl <| keq rfl rfl he0 <| kas rfl <| RunK.nil <| LWP.condF rfl ?_; refine LWP.skip ?_; refine LWP.seq <| LWP.seq <| rgN <| kmv rfl <| kca rfl rfl hG <| kmv rfl <| kex rfl rfl <| kex rfl rfl <| kas rfl <| kas rfl <| RunK.nil <| LWP.seq <| rgN <| kmv rfl ?_; refine kne rfl rfl (r := true) (bne_iff_ne.2 hpe) <| kmv rfl <| RunK.passed rfl rfl rfl <| RunK.passed rfl rfl rfl <| RunK.passed rfl rfl rfl <| RunK.passed rfl rfl rfl <| RunK.passed rfl rfl rfl <| RunK.passed rfl rfl rfl <| kpt rfl rfl <| RunK.nil <| LWP.condT rfl ?_; refine LWP.seq <| rgN <| kas rfl <| RunK.nil <| LWP.ret ?_)
      exact ⟨[], ⟨[_], ⟨rfl, trivial⟩, rfl⟩, (by repeat' (first | exact trivial | refine And.intro ⟨_, rfl, ?_⟩ ?_ | refine And.intro ⟨_, rfl⟩ ?_ | rfl | exact Box.ren_bytes _ _ _ _ | exact Box.ren_vals _ _ _ _ | exact Box.ren_mid rfl)), rfl, rfl⟩
  rw [if_pos h2]
  obtain ⟨rfl, rfl⟩ := hj.2 h2
  rw [hpo h2] at hPs
  have hne : ((((t.set : Nat) : Int)) != (t.set : Nat)) = false := bne_eq_false_iff_eq.2 rfl
  by_cases h3 : partsE t.sc.cs l = 0
  case neg =>
    rw [if_neg h3]
    generalize partsE t.sc.cs l = q at *
    (refine LWP.seq <| rgN <| kas rfl <| RunK.nil <| LWP.seq <| LWP.block <| LWP.seq <| rgN <| kmv rfl <| K.ptrNil rfl (by kernel_rfl) (.inl ⟨rfl, rfl⟩) .plain <| kas rfl <| RunK.nil <| LWP.condF rfl ?_; refine LWP.seq <| rgN <| kmv rfl <| keq rfl rfl he0 <| kas rfl <| RunK.nil <| LWP.condF rfl ?_; refine LWP.skip ?_; refine LWP.seq <| LWP.seq <| rgN <| kmv rfl <| kca rfl rfl hG <| kmv rfl <| kex rfl rfl <| kex rfl rfl <| kas rfl <| kas rfl <| RunK.nil <| LWP.seq <| rgN <| kmv rfl ?_; refine kne rfl rfl (r := false) rfl <| kmv rfl <| gmv rfl rfl rfl <| gmv rfl rfl rfl <| K.nilCheck rfl (.taken rfl rfl) ?_; refine K.fieldAddr rfl rfl (.taken rfl rfl) ?_; refine K.loadOne rfl rfl rfl (.taken rfl rfl) ?_; refine K.neq rfl rfl hne (.taken rfl rfl) ?_; refine kpf rfl rfl <| RunK.nil <| LWP.condF rfl ?_; refine LWP.skip ?_; refine LWP.seq <| LWP.seq <| rgN <| kmv rfl <| K.nilCheck rfl .plain <| kfa rfl rfl ?_; refine K.loadPart rfl rfl rfl (by exact nl2 rfl rfl rfl) .plain ?_; refine kmv rfl <| kca rfl rfl hPs <| kas rfl <| RunK.nil <| LWP.seq <| rgN <| kmv rfl <| kne rfl rfl (r := true) (bne_iff_ne.2 h3) <| RunK.nil <| LWP.condT rfl ?_; refine LWP.seq <| rgN <| kmv rfl <| kas rfl <| RunK.nil <| LWP.ret ?_)
    exact ⟨[], ⟨[_], ⟨rfl, trivial⟩, rfl⟩, (by repeat' (first | exact trivial | refine And.intro ⟨_, rfl, ?_⟩ ?_ | refine And.intro ⟨_, rfl⟩ ?_ | rfl | exact Box.ren_bytes _ _ _ _ | exact Box.ren_vals _ _ _ _ | exact Box.ren_mid rfl)), rfl, rfl⟩
  rw [if_pos h3]
  rw [h3] at hPs
  by_cases h4 : roomT t = 0
  · rw [if_pos h4]
    rw [h4] at hR
    (refine LWP.seq <| rgN <| kas rfl <| RunK.nil <| LWP.seq <| LWP.block <| LWP.seq <| rgN <| kmv rfl <| K.ptrNil rfl (by kernel_rfl) (.inl ⟨rfl, rfl⟩) .plain <| kas rfl <| RunK.nil <| LWP.condF rfl ?_; refine LWP.seq <| rgN <| kmv rfl <| keq rfl rfl he0 <| kas rfl <| RunK.nil <| LWP.condF rfl ?_; refine LWP.skip ?_; refine LWP.seq <| LWP.seq <| rgN <| kmv rfl <| kca rfl rfl hG <| kmv rfl <| kex rfl rfl <| kex rfl rfl <| kas rfl <| kas rfl <| RunK.nil <| LWP.seq <| rgN <| kmv rfl ?_; refine kne rfl rfl (r := false) rfl <| kmv rfl <| gmv rfl rfl rfl <| gmv rfl rfl rfl <| K.nilCheck rfl (.taken rfl rfl) ?_; refine K.fieldAddr rfl rfl (.taken rfl rfl) ?_; refine K.loadOne rfl rfl rfl (.taken rfl rfl) ?_; refine K.neq rfl rfl hne (.taken rfl rfl) ?_; refine kpf rfl rfl <| RunK.nil <| LWP.condF rfl ?_; refine LWP.skip ?_; refine LWP.seq <| LWP.seq <| rgN <| kmv rfl <| K.nilCheck rfl .plain <| kfa rfl rfl ?_; refine K.loadPart rfl rfl rfl (by exact nl2 rfl rfl rfl) .plain ?_; refine kmv rfl <| kca rfl rfl hPs <| kas rfl <| RunK.nil <| LWP.seq <| rgN <| kmv rfl <| kne rfl rfl (r := false) rfl <| RunK.nil <| LWP.condF rfl ?_; refine LWP.skip ?_; refine LWP.seq <| LWP.seq <| rgN <| kmv rfl <| K.callR [(1000000, 1000000)] (hR) rfl rfl (by exact (And.intro ⟨_, rfl, rfl⟩ trivial)) (by exact (all_cons_true (all_cons_true rfl (all_cons_true rfl (all_cons_true rfl (all_cons_true rfl (all_cons_true rfl (all_cons_true rfl (all_cons_true rfl rfl))))))) rfl)) rfl rfl rfl rfl .plain <| keq rfl rfl (r := true) rfl <| RunK.nil <| LWP.condT rfl ?_; refine LWP.seq <| rgN <| kas rfl <| RunK.nil <| LWP.ret ?_)
    exact ⟨[], ⟨[_], ⟨rfl, trivial⟩, rfl⟩, (by repeat' (first | exact trivial | refine And.intro ⟨_, rfl, ?_⟩ ?_ | refine And.intro ⟨_, rfl⟩ ?_ | rfl | exact Box.ren_bytes _ _ _ _ | exact Box.ren_vals _ _ _ _ | exact Box.ren_mid rfl)), rfl, rfl⟩
  · rw [if_neg h4]
    generalize roomT t = rm at *
    (refine LWP.seq <| rgN <| kas rfl <| RunK.nil <| LWP.seq <| LWP.block <| LWP.seq <| rgN <| kmv rfl <| K.ptrNil rfl (by kernel_rfl) (.inl ⟨rfl, rfl⟩) .plain <| kas rfl <| RunK.nil <| LWP.condF rfl ?_; refine LWP.seq <| rgN <| kmv rfl <| keq rfl rfl he0 <| kas rfl <| RunK.nil <| LWP.condF rfl ?_; refine LWP.skip ?_; refine LWP.seq <| LWP.seq <| rgN <| kmv rfl <| kca rfl rfl hG <| kmv rfl <| kex rfl rfl <| kex rfl rfl <| kas rfl <| kas rfl <| RunK.nil <| LWP.seq <| rgN <| kmv rfl ?_; refine kne rfl rfl (r := false) rfl <| kmv rfl <| gmv rfl rfl rfl <| gmv rfl rfl rfl <| K.nilCheck rfl (.taken rfl rfl) ?_; refine K.fieldAddr rfl rfl (.taken rfl rfl) ?_; refine K.loadOne rfl rfl rfl (.taken rfl rfl) ?_; refine K.neq rfl rfl hne (.taken rfl rfl) ?_; refine kpf rfl rfl <| RunK.nil <| LWP.condF rfl ?_; refine LWP.skip ?_; refine LWP.seq <| LWP.seq <| rgN <| kmv rfl <| K.nilCheck rfl .plain <| kfa rfl rfl ?_; refine K.loadPart rfl rfl rfl (by exact nl2 rfl rfl rfl) .plain ?_; refine kmv rfl <| kca rfl rfl hPs <| kas rfl <| RunK.nil <| LWP.seq <| rgN <| kmv rfl <| kne rfl rfl (r := false) rfl <| RunK.nil <| LWP.condF rfl ?_; refine LWP.skip ?_; refine LWP.seq <| LWP.seq <| rgN <| kmv rfl <| K.callR [(1000000, 1000000)] (hR) rfl rfl (by exact (And.intro ⟨_, rfl, rfl⟩ trivial)) (by exact (all_cons_true (all_cons_true rfl (all_cons_true rfl (all_cons_true rfl (all_cons_true rfl (all_cons_true rfl (all_cons_true rfl (all_cons_true rfl rfl))))))) rfl)) rfl rfl rfl rfl .plain <| keq rfl rfl (r := false) (beq_eq_false_iff_ne.2 (by omega)) <| RunK.nil <| LWP.condF rfl ?_; refine LWP.skip ?_; refine LWP.seq <| rgN <| kas rfl <| RunK.nil <| LWP.ret ?_)
    exact ⟨[], ⟨[_], ⟨rfl, trivial⟩, rfl⟩, (by repeat' (first | exact trivial | refine And.intro ⟨_, rfl, ?_⟩ ?_ | refine And.intro ⟨_, rfl⟩ ?_ | rfl | exact Box.ren_bytes _ _ _ _ | exact Box.ren_vals _ _ _ _ | exact Box.ren_mid rfl)), rfl, rfl⟩
theorem tAdd_no (t : Tb) (hk : TbOk t) (e : Nat) (he : e < 18446744073709551616) (l : List Pt) (pad : Option Addr) (pcap : Nat) (hP : PartsC X pad l) (hl : l.length ≤ 12 ∧ ∀ x ∈ l, x.val.length < 4611686018427387904) (h : addE t e l ≠ 0) : MSpec Tryz.prog X 10 [Lp 1000000, Ln .u64 (e : Nat), Lx pad l.length pcap] [tB 1000000 t] (.tup [Sn .i64 0, Sn .i64 (addE t e l)]) [tB 1000000 t] := by
  refine MSpec.intro Tryz.func10 rfl (by kernel_rfl) rfl rfl (by exact (by repeat' (first | refine all_cons_true ?_ ?_ | rfl | exact bytes_inUse | exact vals_inUse | exact mid_inUse rfl))) rfl rfl ?_
  intro C
  refine LWP.ends (tab_open fun Hs He Hr vE vC vP ps h1 h2 h3 hI => ?_)
  obtain ⟨ad, cap, rfl⟩ := hI.ents.slice
  obtain ⟨cb, cc, rfl, hin⟩ := hI.sc
  rw [List.length_map] at hI ⊢
  have hC := checkAdd0 (tH X Hs He Hr) t hk ad pad (some ⟨cb, 0, none⟩) cap pcap cc vP e l (hin.mono (tH_s h2 h3)) (hP.mono (tH_x h1 h2 h3)).parts hl.1 he
  generalize addE t e l = q at *
  (refine LWP.seq <| rgN <| kas rfl <| kas rfl <| RunK.nil <| LWP.seq <| LWP.seq <| rgN <| kmv rfl <| kmv rfl <| kmv rfl <| K.callR [(1000000, 1000000)] (hC) rfl rfl (by exact (And.intro ⟨_, rfl, rfl⟩ trivial)) (by exact (all_cons_true (all_cons_true rfl (all_cons_true rfl (all_cons_true rfl (all_cons_true rfl (all_cons_true rfl (all_cons_true rfl (all_cons_true rfl rfl))))))) rfl)) rfl rfl rfl rfl .plain <| kas rfl <| RunK.nil ?_; refine LWP.seq <| rgN <| kmv rfl <| kne rfl rfl (r := true) (bne_iff_ne.2 h) <| RunK.nil <| LWP.condT rfl ?_; refine LWP.seq <| rgN <| kmv rfl <| kas rfl <| kas rfl <| RunK.nil <| LWP.ret ?_)
  refine tab_shut h1 h2 h3 hI (Leads.done ?_)
  exact ⟨[], ⟨[_, _], ⟨rfl, rfl, trivial⟩, rfl⟩, (by repeat' (first | exact trivial | refine And.intro ⟨_, rfl, ?_⟩ ?_ | refine And.intro ⟨_, rfl⟩ ?_ | rfl | exact Box.ren_bytes _ _ _ _ | exact Box.ren_vals _ _ _ _ | exact Box.ren_mid rfl)), rfl, rfl⟩
set_option maxHeartbeats 6400000 in
theorem tAdd (t : Tb) (hk : TbOk t) (e : Nat) (he : e < 18446744073709551616) (l : List Pt) (pad : Option Addr) (pcap : Nat) (hP : PartsC X pad l) (hl : l.length ≤ 12 ∧ ∀ x ∈ l, x.val.length < 4611686018427387904) (h : addE t e l = 0) : MSpec Tryz.prog X 10 [Lp 1000000, Ln .u64 (e : Nat), Lx pad l.length pcap] [tB 1000000 t] (.tup [Sn .i64 (t.l.length : Nat), Sn .i64 0]) [tB 1000000 (addT t e l)] := by
  have h24 := t_len24 hk
  have hroom := hk.room
  have hmost := hk.most
  obtain ⟨_, hjust, hparts, _, hrm⟩ := TbOk.add hk he h
  refine MSpec.intro Tryz.func10 rfl (by kernel_rfl) rfl rfl (by exact (by repeat' (first | refine all_cons_true ?_ ?_ | rfl | exact bytes_inUse | exact vals_inUse | exact mid_inUse rfl))) rfl rfl ?_
  intro C
  refine LWP.ends (tab_open fun Hs He Hr vE vC vP ps h1 h2 h3 hI => ?_)
  obtain ⟨ad, cap, rfl⟩ := hI.ents.slice
  obtain ⟨cb, cc, rfl, hin⟩ := hI.sc
  have hll : (t.l.map Rw.e).length = t.l.length := List.length_map _
  obtain ⟨ptad, ptcap, rfl, hPt⟩ := hI.ptrs
  have hps : ps.length = (onlyC t.sc.cs t.set).length := by rw [hI.refs.len]; exact colsG_len _ _ _
  rw [hll]
  have hC := checkAdd0 (tH X Hs He Hr) t hk ad pad (some ⟨cb, 0, none⟩) cap pcap cc (.slice ptad ps.length ptcap) e l (hin.mono (tH_s h2 h3)) (hP.mono (tH_x h1 h2 h3)).parts hl.1 he
  rw [h] at hC
  generalize hnc : (onlyC t.sc.cs t.set).length = nc at *
  (refine LWP.seq <| rgN <| kas rfl <| kas rfl <| RunK.nil <| LWP.seq <| LWP.seq <| rgN <| kmv rfl <| kmv rfl <| kmv rfl <| K.callR [(1000000, 1000000)] (hC) rfl rfl (by exact (And.intro ⟨_, rfl, rfl⟩ trivial)) (by exact (all_cons_true (all_cons_true rfl (all_cons_true rfl (all_cons_true rfl (all_cons_true rfl (all_cons_true rfl (all_cons_true rfl (all_cons_true rfl rfl))))))) rfl)) rfl rfl rfl rfl .plain <| kas rfl <| RunK.nil ?_; refine LWP.seq <| rgN <| kmv rfl <| kne rfl rfl (r := false) rfl <| RunK.nil <| LWP.condF rfl ?_; refine LWP.skip ?_; refine LWP.seq <| LWP.seq <| rgN <| kmv rfl <| K.lenX rfl SliceT.h rfl .plain ?_; refine kmv rfl <| RunK.nil <| LWP.block ?_)
  refine LWP.loopL (fun m σ => ∃ (j : Nat) (H : Nat → Option Obj), j ≤ l.length ∧ m = l.length - j ∧ OwnedM C (joinM (joinM X Hs) He) H ∧ Refs H ps (colsG (addF t.l l j) t.most (onlyC t.sc.cs t.set)) ∧ σ = ⟨[(0, Lp 1000000), (1, Ln .u64 (e : Nat)), (21, Lx pad l.length pcap), (22, Ln .i64 (l.length : Nat)), (23, Ln .i64 (j : Nat))], [tS 1000000 t (vS ad t.l.length cap) (.slice (some ⟨cb, 0, none⟩) nc cc) (.slice ptad ps.length ptcap)], joinM (joinM (joinM X Hs) He) H⟩) l.length
    (Leads.le (σ' := ⟨[(0, Lp 1000000), (1, Ln .u64 (e : Nat)), (21, Lx pad l.length pcap), (22, Ln .i64 (l.length : Nat)), (23, Ln .i64 (0 : Nat))], [tS 1000000 t (vS ad t.l.length cap) (.slice (some ⟨cb, 0, none⟩) nc cc) (.slice ptad ps.length ptcap)], tH X Hs He Hr⟩) (Le.of (by exact ⟨rfl, rfl, rfl, rfl, rfl, trivial⟩) (by exact ⟨rfl, trivial⟩) (by exact rfl) (by exact rfl) (by repeat' (first | refine all_cons_true ?_ ?_ | rfl | exact bytes_inUse | exact vals_inUse | exact mid_inUse rfl))) (Leads.done ⟨0, Hr, by omega, by omega, h3, by
      rw [show colsG (addF t.l l 0) t.most (onlyC t.sc.cs t.set) = colsT t from colsG_congr fun k d _ => addF_zero t.l l k d]
      exact hI.refs, rfl⟩)) ?_
  rintro m σ ⟨j, H, hj, rfl, hO, hR, rfl⟩
  by_cases hlt : j < l.length
  · obtain ⟨p, hp⟩ : ∃ p, l[j]? = some p := ⟨_, List.getElem?_eq_getElem hlt⟩
    have hpm := List.mem_of_getElem? hp
    have hidm := just_in hjust p hpm
    obtain ⟨k, hpl⟩ : ∃ k, placeT t.set p.comp = some k := by
      have : (placeT t.set p.comp).isSome = true := by rw [← t_has, ← any_ids, List.any_eq_true]; exact ⟨_, hidm, beq_iff_eq.2 rfl⟩
      exact Option.isSome_iff_exists.1 this
    obtain ⟨c, hc, hid, hfs, _⟩ := t_at hk hpl
    have hfit : fitErr c.fs p.val = 0 := by have := part_fits (parts_zero hparts p hpm); rw [hfs] at this; exact this
    have hsz := t_size hk hc
    have hXm : ∀ b o, X b = some o → joinM (joinM (joinM X Hs) He) H b = some o := tH_x h1 h2 hO
    obtain ⟨blk, off, arr, el, fr, vad, vcap, rfl, hX, hps2, hpc, _, _, hN, _⟩ := (hP.mono hXm).get hp
    have hio : off + Int.toNat (j : Int) * 2 = off + j * 2 := by simp
    have hpl0 := place0 (joinM (joinM (joinM X Hs) He) H) t (.slice ad t.l.length cap) (.slice ptad ps.length ptcap) (onlyC t.sc.cs t.set) (some ⟨cb, 0, none⟩) cc p.comp (hin.mono (tH_s h2 hO)) (by omega)
    rw [t_place hk, hpl, hnc] at hpl0
    replace hpl0 := (show MSpec _ _ _ [Lp 1000000, Ln .i64 p.comp] _ (Ln .i64 (k : Nat)) _ from hpl0)
    obtain ⟨cblk, coff, carr, cel, cfr, fad, fcap, hq, hcX, hcsz, hccs, _, _, g3, hF⟩ := (hin.mono (tH_s (X := X) h2 hO)).get hc
    simp only [Option.some.injEq, Addr.mk.injEq] at hq
    obtain ⟨rfl, rfl, _⟩ := hq
    have hPk := lPack_spec (joinM (joinM (joinM X Hs) He) H) fad vad fcap vcap c.fs p.val hF (by omega) hN (hl.2 p hpm)
    rw [hfit, show packR c.fs p.val = packB c.fs p.val from if_pos hfit] at hPk
    have hkc := (List.getElem?_eq_some_iff.1 hc).1
    have hio2 : 0 + Int.toNat (k : Int) * 3 = 0 + k * 3 := by simp
    have hBl := hsz.2.2 p.val
    obtain ⟨hf1, hf2⟩ := addF_here (l := t.l) (k := k) hjust hp hid
    have hothers : ∀ k' d, k' ≠ k → (onlyC t.sc.cs t.set)[k']? = some d → addF t.l l (j + 1) k' d = addF t.l l j k' d := fun k' d hne hd => addF_there hp fun e' => by
      have hpw := (pair16 (goodC16 hk.sc)).filter (fun c => hasB t.set c.id)
      rw [List.pairwise_iff_getElem] at hpw
      obtain ⟨hk1, rfl⟩ := List.getElem?_eq_some_iff.1 hd
      obtain ⟨hk2, rfl⟩ := List.getElem?_eq_some_iff.1 hc
      rcases Nat.lt_or_gt_of_ne hne with hlt' | hlt'
      · have := hpw k' k hk1 hk2 hlt'
        unfold onlyC at e' hid
        omega
      · have := hpw k k' hk2 hk1 hlt'
        unfold onlyC at e' hid
        omega
    generalize hBB : packB c.fs p.val = B at *
    (refine LWP.seq <| rgN <| klt rfl rfl (decide_eq_true (by omega)) <| RunK.nil <| LWP.seq <| LWP.condT rfl ?_; refine LWP.skip ?_; refine LWP.seq <| LWP.block <| LWP.seq <| rgN <| K.indexX rfl rfl SliceT.h (by omega) hio .plain <| K.loadXagg rfl hX (by kernel_rfl) hps2 hpc .plain <| K.alloc rfl .plain ?_; refine K.storeAll rfl rfl rfl rfl rfl rfl .plain ?_; refine RunK.nil <| LWP.seq <| rgN <| kmv rfl <| kfa rfl rfl ?_; refine kl1 rfl rfl rfl <| K.callR [(1000000, 1000000)] (hpl0) rfl rfl (by exact (And.intro ⟨_, rfl, rfl⟩ trivial)) (by exact (all_cons_true (all_cons_true rfl (all_cons_true rfl (all_cons_true rfl (all_cons_true rfl (all_cons_true rfl (all_cons_true rfl (all_cons_true rfl rfl))))))) rfl)) rfl rfl rfl rfl .plain <| kas rfl <| RunK.nil <| LWP.seq <| rgD mixed <| kmv rfl <| K.nilCheck rfl .plain <| kfa rfl rfl ?_; refine kfa rfl rfl ?_; refine kl1 rfl rfl rfl <| kmv rfl <| K.indexX rfl rfl SliceT.h (by omega) hio2 .plain <| K.fieldAddrX rfl rfl .plain ?_; refine K.loadX rfl hcX rfl g3 .plain <| kfa rfl rfl ?_; refine kl1 rfl rfl rfl <| kca rfl rfl hPk <| kmv rfl <| kex rfl rfl <| kex rfl rfl <| kas rfl <| kas rfl <| RunK.nil <| rgA ?_)
    refine LWP.le (σ' := ⟨[(11, Ln .i64 (k : Nat)), (12, Ls B), (0, Lp 1000000), (1, Ln .u64 (e : Nat)), (21, Lx (some ⟨blk, off, none⟩) l.length pcap), (22, Ln .i64 (l.length : Nat)), (23, Ln .i64 (j : Nat))], [tS 1000000 t (vS ad t.l.length cap) (.slice (some ⟨cb, 0, none⟩) nc cc) (.slice ptad ps.length ptcap)], joinM (joinM (joinM X Hs) He) H⟩) (Le.of (by exact ⟨rfl, rfl, rfl, rfl, rfl, rfl, rfl, trivial⟩) (by exact ⟨rfl, trivial⟩) (by exact rfl) (by exact rfl) (by repeat' (first | refine all_cons_true ?_ ?_ | rfl | exact bytes_inUse | exact vals_inUse | exact mid_inUse rfl))) ?_
    refine tcol_open (kk := 501) hO hR (colsG_at hc) rfl rfl rfl (by omega) fun b H0 hb hO0 hback => ?_
    obtain ⟨pblk, parr, pel, pfr, rfl, hPX, hPa⟩ := hPt k b hb
    have hPX2 : joinM (joinM (joinM X Hs) He) H0 pblk = some (.cells parr pel pfr) := tH_s h2 hO0 _ _ hPX
    have hkl := (List.getElem?_eq_some_iff.1 hb).1
    have hio3 : 0 + Int.toNat (k : Int) * 1 = k := by simp
    have hcl : (colL t.l k c).length = t.l.length := List.length_map _
    have happ : appE (rowSize c.fs) t.most (colL t.l k c).length B = 0 := by
      unfold appE
      unfold roomT at hrm
      rw [if_neg (fun hn => hn hBl), if_neg (by omega)]
    have hg := (cAppend_ok (joinM (joinM (joinM X Hs) He) H0) (rowSize c.fs) t.most (colL t.l k c) B happ).at (b := b)
    have hroot := colR_root (rowSize c.fs) t.most (colL t.l k c ++ [B])
    have hadd : IntKind.i64.wrap (((j : Nat) : Int) + 1) = ((j + 1 : Nat) : Int) := by rw [wrap_i64 (by omega)]; omega
    rw [hf1]
    (refine rgN <| kmv rfl <| K.nilCheck rfl .plain <| kfa rfl rfl ?_; refine kl1 rfl rfl rfl <| kmv rfl <| K.indexX rfl rfl SliceT.h (by omega) hio3 .plain <| K.loadX rfl hPX2 rfl hPa .plain <| kmv rfl <| K.callM [(1000000, 501)] [atB 501 b (rowSize c.fs) t.most (colL t.l k c ++ [B])] (hg) rfl rfl (by exact (And.intro ⟨_, rfl, rfl⟩ trivial)) (by exact (all_cons_true rfl rfl)) rfl rfl rfl rfl (by exact (.box rfl rfl .nil)) .plain <| RunK.nil <| rgN <| kad rfl rfl hadd <| kmv rfl <| RunK.nil ?_)
    refine Leads.le (σ' := ⟨[(0, Lp 1000000), (1, Ln .u64 (e : Nat)), (21, Lx (some ⟨blk, off, none⟩) l.length pcap), (22, Ln .i64 (l.length : Nat)), (23, Ln .i64 (j + 1 : Nat))], [atB 501 b (rowSize c.fs) t.most (colL t.l k c ++ [B]), tS 1000000 t (vS ad t.l.length cap) (.slice (some ⟨cb, 0, none⟩) nc cc) (.slice (some ⟨pblk, 0, none⟩) ps.length ptcap)], joinM (joinM (joinM X Hs) He) H0⟩) (Le.of (by exact ⟨rfl, rfl, rfl, rfl, rfl, trivial⟩) (by exact ⟨rfl, rfl, trivial⟩) (by exact rfl) (by exact rfl) (by repeat' (first | refine all_cons_true ?_ ?_ | rfl | exact bytes_inUse | exact vals_inUse | exact mid_inUse rfl))) ?_
    refine tcol_shut hO0 hroot rfl rfl rfl fun m' Hc' g1 g2 g3 g4 => ?_
    have hB := hback _ m' Hc' g1 g2 g3
    rw [← hf2, colsG_set hc (g := addF t.l l (j + 1)) hothers] at hB
    exact Leads.done ⟨l.length - (j + 1), by omega, j + 1, _, by omega, rfl, g4, hB, rfl⟩
  · have e' : j = l.length := by omega
    subst e'
    have hRn : Refs H ps (colsT (addT t e l)) := by
      have : colsT (addT t e l) = colsG (addF t.l l l.length) t.most (onlyC t.sc.cs t.set) := by
        show colsG (colL (t.l ++ [⟨e, sortP (idsL t.set) l⟩])) t.most (onlyC t.sc.cs t.set) = _
        exact colsG_congr fun k d hd => (addF_all hk hjust e hd).symm
      rw [this]; exact hR
    have hents : (addT t e l).l.map Rw.e = t.l.map Rw.e ++ [e] := by
      show (t.l ++ [_]).map Rw.e = _
      rw [List.map_append]; rfl
    have hb256 : t.l.length < 256 := by unfold roomT at hrm; omega
    obtain ⟨hsw1, hsw2, hsw3⟩ := OwnedM.swap h2 hO
    have hE := hI.ents
    have htwo : ∀ r ∈ (addT t e l).l, ∀ p ∈ r.p, ∀ u ∈ p.val, In2 u.2 := fun r hr p hp => by
      rcases List.mem_append.1 hr with hr | hr
      · exact hI.two r hr p hp
      · rw [List.mem_singleton.1 hr] at hp
        obtain ⟨i, hi⟩ := List.mem_iff_getElem?.1 (sort_mem hp)
        obtain ⟨_, _, _, _, _, _, _, _, _, _, _, _, _, hN, _⟩ := hP.get hi
        exact hN.in2
    rw [hsw3]
    rw [hll] at hE
    have hnew : entV (t.l.map Rw.e ++ [e]) = entV (t.l.map Rw.e) ++ [.int .u64 (e : Nat)] := by unfold entV; rw [List.map_append]; rfl
    have hsub : IntKind.i64.wrap (((t.l.length + 1 : Nat) : Int) - 1) = ((t.l.length : Nat) : Int) := by rw [wrap_i64 (by omega)]; omega
    have hlen1 : (entV (t.l.map Rw.e ++ [e])).length = (t.l.length + 1) * 1 := by unfold entV; rw [List.length_map, List.length_append, hll]; simp
    have hfin : ∀ (He' : Nat → Option Obj) (Mid : St → Prop), OwnedM C (joinM (joinM X Hs) H) He' → (∀ v HE, OwnedM C (joinM (joinM X Hs) H) HE → EntsAt HE v (t.l.map Rw.e ++ [e]) → Leads _ C Mid ⟨[(6, Ln .i64 (t.l.length : Nat)), (7, Ln .i64 0)], [tS 1000000 t (.val v) (.slice (some ⟨cb, 0, none⟩) nc cc) (.slice ptad ps.length ptcap)], joinM (joinM (joinM X Hs) H) HE⟩) →
        Leads (Tryz.f10).ntmps C Mid ⟨[(6, Ln .i64 (t.l.length : Nat)), (7, Ln .i64 0)], [(1000000, some ⟨92, [.val (.int .u32 (t.set : Nat)), .val (.int .i64 (t.most : Nat)), .val (.int .i64 (t.kept : Nat))] ++ .slc 501 0 (t.l.length + 1) 1 :: [.val (.int .i64 t.sc.ver), .val (.slice (some ⟨cb, 0, none⟩) nc cc), .val (.slice ptad ps.length ptcap)], false⟩), (501, some ⟨37, (entV (t.l.map Rw.e ++ [e])).map CV.val, true⟩)], joinM (joinM (joinM X Hs) H) He'⟩ := fun He' Mid hO' hm =>
      Leads.closeCell hO' hlen1 rfl rfl rfl rfl rfl rfl fun b o v g1 g2 g3 g4 => hm v _ g3 (.inr ⟨b, g4⟩)
    have hlast : ∀ v HE, OwnedM C (joinM (joinM X Hs) H) HE → EntsAt HE v (t.l.map Rw.e ++ [e]) → Leads (Tryz.f10).ntmps C (retM Tryz.prog Tryz.f10 [tB 1000000 t] (.tup [Sn .i64 (t.l.length : Nat), Sn .i64 0]) [tB 1000000 (addT t e l)] .ret) ⟨[(6, Ln .i64 (t.l.length : Nat)), (7, Ln .i64 0)], [tS 1000000 t (.val v) (.slice (some ⟨cb, 0, none⟩) nc cc) (.slice ptad ps.length ptcap)], joinM (joinM (joinM X Hs) H) HE⟩ := fun v HE k0 kE => by
      obtain ⟨k1, k2, k3⟩ := OwnedM.swap hsw1 k0
      rw [k3]
      refine tab_shut (t := addT t e l) h1 k1 k2 ⟨⟨cb, cc, by rw [← hnc]; rfl, hin⟩, ⟨ptad, ptcap, rfl, hPt⟩, hRn, by rw [hents]; exact kE, htwo⟩ (Leads.done ?_)
      exact ⟨[], ⟨[_, _], ⟨rfl, rfl, trivial⟩, rfl⟩, (by repeat' (first | exact trivial | refine And.intro ⟨_, rfl, ?_⟩ ?_ | refine And.intro ⟨_, rfl⟩ ?_ | rfl | exact Box.ren_bytes _ _ _ _ | exact Box.ren_vals _ _ _ _ | exact Box.ren_mid rfl)), rfl, rfl⟩
    rcases hE with ⟨hv, hz⟩ | ⟨db, hd⟩
    · have hz0 : t.l.length = 0 := by rw [← hll, hz]; rfl
      simp only [nilSlc, Value.slice.injEq] at hv
      obtain ⟨rfl, _, rfl⟩ := hv
      rw [hz] at hfin hlast
      rw [hz0] at hfin hlast ⊢
      have hsub1 : IntKind.i64.wrap (((1 : Nat) : Int) - 1) = ((0 : Nat) : Int) := by rw [wrap_i64 (by omega)]; rfl
      (refine LWP.seq <| rgN <| klt rfl rfl (decide_eq_false (by omega)) <| RunK.nil <| LWP.seq <| LWP.condF rfl ?_; refine LWP.exit <| LWP.seq <| rgN <| kmv rfl <| kmv rfl <| K.nilCheck rfl .plain <| kfa rfl rfl ?_; refine kl1 rfl rfl rfl <| kmv rfl <| K.buildSlc (zs := [.int .u64 0]) (sz := 1) (e := 37) (cs' := [.val (.int .u64 (e : Nat))]) (by kernel_rfl) rfl rfl rfl rfl rfl rfl .plain <| K.appendNil (by_ := 8) (e := 37) (e2 := 37) (l2 := [.val (.int .u64 (e : Nat))]) rfl rfl rfl (Nat.le_refl _) rfl rfl (by decide) (by kernel_rfl) (by kernel_rfl) (by omega) (by omega) rfl .plain ?_; refine K.nilCheck rfl .plain <| kfa rfl rfl ?_; refine K.storeOne rfl rfl rfl rfl rfl (nl7 rfl rfl rfl rfl rfl rfl rfl rfl) .plain <| RunK.nil <| LWP.seq <| rgN <| kmv rfl <| K.nilCheck rfl .plain <| kfa rfl rfl ?_; refine kl1 rfl rfl rfl <| K.lenSlc rfl SliceT.h rfl .plain ?_; refine K.sub rfl rfl hsub1 .plain <| kas rfl <| kas rfl <| RunK.nil <| LWP.ret ?_)
      refine Leads.le (σ' := ⟨[(6, Ln .i64 (0 : Nat)), (7, Ln .i64 0)], [(1000000, some ⟨92, [.val (.int .u32 (t.set : Nat)), .val (.int .i64 (t.most : Nat)), .val (.int .i64 (t.kept : Nat))] ++ .slc 501 0 (0 + 1) 1 :: [.val (.int .i64 t.sc.ver), .val (.slice (some ⟨cb, 0, none⟩) nc cc), .val (.slice ptad ps.length ptcap)], false⟩), (501, some ⟨37, (entV ([] ++ [e])).map CV.val, true⟩)], joinM (joinM (joinM X Hs) H) He⟩) (Le.ofR [(501, 63)] (by exact ⟨rfl, rfl, trivial⟩) (by repeat' (first | exact trivial | refine And.intro ⟨_, rfl, ?_⟩ ?_ | refine And.intro ⟨_, rfl⟩ ?_ | rfl | exact Box.ren_bytes _ _ _ _ | exact Box.ren_vals _ _ _ _ | exact Box.ren_mid rfl)) (by exact rfl) (by exact rfl) (by repeat' (first | refine all_cons_true ?_ ?_ | rfl | exact bytes_inUse | exact vals_inUse | exact mid_inUse rfl)) (by exact rfl) (by exact rfl)) ?_
      exact hfin _ _ hsw2 hlast
    · have hel : (entV (t.l.map Rw.e)).length = t.l.length * 1 := by unfold entV; rw [List.length_map, hll]; omega
      have hcl1 : ((entV (t.l.map Rw.e)).map CV.val).length = t.l.length * 1 := by rw [List.length_map]; exact hel
      (refine LWP.seq <| rgN <| klt rfl rfl (decide_eq_false (by omega)) <| RunK.nil <| LWP.seq <| LWP.condF rfl ?_; refine LWP.exit <| LWP.seq ?_)
      refine LWP.le (σ' := ⟨[(0, Lp 1000000), (1, Ln .u64 (e : Nat))], [tS 1000000 t (vS ad t.l.length cap) (.slice (some ⟨cb, 0, none⟩) nc cc) (.slice ptad ps.length ptcap)], joinM (joinM (joinM X Hs) H) He⟩) (Le.of (by exact ⟨rfl, rfl, trivial⟩) (by exact ⟨rfl, trivial⟩) (by exact rfl) (by exact rfl) (by repeat' (first | refine all_cons_true ?_ ?_ | rfl | exact bytes_inUse | exact vals_inUse | exact mid_inUse rfl))) ?_
      refine LWP.openCell (A := [.val (.int .u32 (t.set : Nat)), .val (.int .i64 (t.most : Nat)), .val (.int .i64 (t.kept : Nat))]) (B := [.val (.int .i64 t.sc.ver), .val (.slice (some ⟨cb, 0, none⟩) nc cc), .val (.slice ptad ps.length ptcap)]) (k := 502) (sz := 1) (len := t.l.length) hsw2 hd hel (by omega) rfl rfl rfl rfl rfl ?_
      (refine rgN <| kmv rfl <| kmv rfl <| K.nilCheck rfl .plain <| kfa rfl rfl ?_; refine kl1 rfl rfl rfl <| kmv rfl <| K.buildSlc (zs := [.int .u64 0]) (sz := 1) (e := 37) (cs' := [.val (.int .u64 (e : Nat))]) (by kernel_rfl) rfl rfl rfl rfl rfl rfl .plain <| K.appendSlc (by_ := 8) (e2 := 37) (l2 := [.val (.int .u64 (e : Nat))]) (nl := t.l.length + 1) (nc := (entV (t.l.map Rw.e ++ [e])).map .val) rfl rfl hcl1 rfl rfl (Nat.le_refl _) rfl rfl (by kernel_rfl) (by kernel_rfl) (by omega) (by omega) rfl rfl (by rw [hnew, List.map_append]; rfl) .plain <| K.nilCheck rfl .plain <| kfa rfl rfl ?_; refine K.storeOne rfl rfl rfl rfl rfl (nl7 rfl rfl rfl rfl rfl rfl rfl rfl) .plain <| RunK.nil <| LWP.seq <| rgN <| kmv rfl <| K.nilCheck rfl .plain <| kfa rfl rfl ?_; refine kl1 rfl rfl rfl <| K.lenSlc rfl SliceT.h rfl .plain ?_; refine K.sub rfl rfl hsub .plain <| kas rfl <| kas rfl <| RunK.nil <| LWP.ret ?_)
      refine Leads.le (σ' := ⟨[(6, Ln .i64 (t.l.length : Nat)), (7, Ln .i64 0)], [(1000000, some ⟨92, [.val (.int .u32 (t.set : Nat)), .val (.int .i64 (t.most : Nat)), .val (.int .i64 (t.kept : Nat))] ++ .slc 501 0 (t.l.length + 1) 1 :: [.val (.int .i64 t.sc.ver), .val (.slice (some ⟨cb, 0, none⟩) nc cc), .val (.slice ptad ps.length ptcap)], false⟩), (501, some ⟨37, (entV (t.l.map Rw.e ++ [e])).map CV.val, true⟩)], joinM (joinM (joinM X Hs) H) (cutM He db)⟩) (Le.ofR [(501, 63)] (by exact ⟨rfl, rfl, trivial⟩) (by repeat' (first | exact trivial | refine And.intro ⟨_, rfl, ?_⟩ ?_ | refine And.intro ⟨_, rfl⟩ ?_ | rfl | exact Box.ren_bytes _ _ _ _ | exact Box.ren_vals _ _ _ _ | exact Box.ren_mid rfl)) (by exact rfl) (by exact rfl) (by repeat' (first | refine all_cons_true ?_ ?_ | rfl | exact bytes_inUse | exact vals_inUse | exact mid_inUse rfl)) (by exact rfl) (by exact rfl)) ?_
      exact hfin _ _ (hsw2.cut db) hlast
end Go.Proofs.YtbpdbclndfmcgaaGreatDoor
end
section
namespace Go.Proofs.YtbpdbclndfmcgaaGreatDoor
open Go Go.Lg Go.Lg.Fld Go.Lg.Sg Go.Lg.Col
set_option maxRecDepth 100000
def pvs (ps : List Nat) : List Value := ps.map fun b => .pointer (some ⟨b, 0, none⟩)
theorem pvs_len (ps : List Nat) : (pvs ps).length = ps.length := List.length_map _
theorem ptrs_leads {H : Nat → Option Obj} {b : Nat} {v : Value} {el : TypeId} {ps : List Nat} (h : LeadsTo H b v el 1 (pvs ps)) : PtrsIn H v ps := by
  obtain ⟨len, cap, arr, fr, rfl, h2, _, _, h5, sp, h6⟩ := h
  rw [pvs_len] at h2
  have e : len = ps.length := by omega
  refine ⟨some ⟨b, 0, none⟩, cap, by rw [e], fun i x hx => ⟨b, arr, el, fr, rfl, h5, ?_⟩⟩
  rw [← Array.getElem?_toList, h6, List.getElem?_append_left (by rw [pvs_len]; exact (List.getElem?_eq_some_iff.1 hx).1)]
  unfold pvs
  rw [List.getElem?_map, hx]; rfl
variable (X : Nat → Option Obj)
abbrev tO (k : Nat) (t : Tb) (vE vC vP : CV) : Nat × Option Box := (k, some ⟨92, [.val (.int .u32 (t.set : Nat)), .val (.int .i64 (t.most : Nat)), .val (.int .i64 (t.kept : Nat)), vE, .val (.int .i64 t.sc.ver), vC, vP], false⟩)
end Go.Proofs.YtbpdbclndfmcgaaGreatDoor
end
section
namespace Go.Lg
open Go Go.RowKit
section
variable {P : Program} {X : Nat → Option Obj} {pre : List (Nat × Option Box)} {ι : Nat → Nat × Nat} {H : Nat → Nat → Option Obj} {w : World}
theorem lentBox_mem (hM : MemOf X ι H pre w) {k : Nat} {b : Box} (hst : stOf pre k = some (some b)) : LentBox (fun i => w.heap[i]?) b (ι k).1 (ι k).2 := by
  obtain ⟨e, cs, row⟩ := b
  cases row with
  | bool r =>
    obtain ⟨arr, fr, harr, _, hsz, hbr⟩ := hM.boxes k _ hst rfl
    unfold Box.rel at hbr
    cases r with
    | false => exact ⟨arr, fr, arr.toList, [], harr, hsz, by simp, fun vals e => by simp only at e hbr; rw [e] at hbr; exact rel_vals hbr⟩
    | true =>
      obtain ⟨us, sp, e, hl⟩ := hbr
      exact ⟨arr, fr, us, sp, harr, hsz, e, fun vals e => by simp only at e hl; rw [e] at hl; exact rel_vals hl⟩
  | res R => exact ⟨H k, (hM.res.holds k _ _ _ hst).1, fun i o h => (hM.res.mem k i o h).2.1⟩
theorem lentC_mem (hM : MemOf X ι H pre w) (ks : List Nat) {c : CV} {u : Value} (hl : lendC (stOf pre) ks c = true) (h : c.rel (stOf pre) ι u) : LentC (stOf pre) (fun i => w.heap[i]?) c u := by
  cases c with
  | val v => exact h
  | slc k off len sz =>
    simp only [lendC, Bool.and_eq_true] at hl
    cases hs : stOf pre k with
    | none => rw [hs] at hl; exact absurd hl.2 (by simp)
    | some x =>
      cases x with
      | none => rw [hs] at hl; exact absurd hl.2 (by simp)
      | some b =>
        simp only [CV.rel, hs] at h
        obtain ⟨cap, rfl, h3, h4⟩ := h
        exact ⟨b, _, cap, _, hs, rfl, h3, h4, lentBox_mem hM hs⟩
  | ptr _ _ => cases hl
  | mp _ => cases hl
  | fn _ _ _ => cases hl
  | hang _ _ _ => cases hl
  | junk => cases hl
theorem lentCs_mem (hM : MemOf X ι H pre w) (ks : List Nat) : ∀ {cs : List CV} {us : List Value}, cs.all (lendC (stOf pre) ks) = true → CVs.rel (stOf pre) ι cs us → LentCs (stOf pre) (fun i => w.heap[i]?) cs us
  | [], [], _, _ => rfl
  | [], _ :: _, _, h => h.elim
  | _ :: _, [], _, h => h.elim
  | c :: l, u :: us, hl, h => by
    simp only [List.all_cons, Bool.and_eq_true] at hl
    exact ⟨u, us, rfl, lentC_mem hM ks hl.1 h.1, lentCs_mem hM ks hl.2 h.2⟩
theorem lentLs_mem (hM : MemOf X ι H pre w) (ks : List Nat) : ∀ {lvs : List LV} {us : List Value}, lvs.all (lendL (stOf pre) ks) = true → LVs.rel (stOf pre) ι lvs us → LentLs (stOf pre) (fun i => w.heap[i]?) lvs us
  | [], [], _, _ => rfl
  | [], _ :: _, _, h => h.elim
  | _ :: _, [], _, h => h.elim
  | lv :: l, u :: us, hl, h => by
    simp only [List.all_cons, Bool.and_eq_true] at hl
    refine ⟨u, us, rfl, ?_, lentLs_mem hM ks hl.2 h.2⟩
    have h1 := h.1
    have h2 := hl.1
    match lv with
    | .sv (.one c) => exact lentC_mem hM ks h2 h1
    | .sv (.agg cs) =>
      obtain ⟨arr, rfl, hl'⟩ := h1
      exact ⟨arr.toList, by simp, lentCs_mem hM ks h2 hl'⟩
    | .tup _ => cases h2
theorem Box.rel_means {bx : List (Nat × Option Box)} {S : Nat → Option (Option Box)} {κ : Nat → Nat × Nat} (h : ∀ k, (look k bx).isSome = true → κ k = ι k) {b : Box} (hu : b.cells.all (CV.inUse bx) = true) {vs : List Value} (hr : b.rel S ι vs) : b.rel S κ vs := by
  unfold Box.rel at hr ⊢
  cases hb : b.row with
  | res R => rw [hb] at hr; exact hr.elim
  | bool r =>
    cases r with
    | false => rw [hb] at hr; exact CVs.rel_means h hu hr
    | true =>
      rw [hb] at hr
      obtain ⟨us, sp, e, hl⟩ := hr
      exact ⟨us, sp, e, CVs.rel_means h hu hl⟩
theorem MSpec.lend {f : FuncId} {lvs : List LV} {r : LV} {post : List (Nat × Option Box)} (hent : Program.enters P f = true) (hl : lvs.all (lendL (stOf pre) (pre.map (·.1))) = true)
    (hub : pre.all (fun p => match p.2 with | some b => b.cells.all (CV.inUse pre) | none => true) = true) (hup : post.all (fun p => match p.2 with | some b => b.cells.all (CV.inUse post) | none => true) = true) (hur : r.inUse post = true) (hdis : post.all (fun p => (look p.1 pre).isNone) = true)
    (hs : ∀ (Y : Nat → Option Obj) (us : List Value), (∀ b o, X b = some o → Y b = some o) → LentLs (stOf pre) Y lvs us → MSpec P Y f (us.map toLV) [] r post) : MSpec P X f lvs pre r (pre ++ post) := by
  refine ⟨hent, fun w vals ι H hM hargs => ?_⟩
  have hlent := lentLs_mem hM (pre.map (·.1)) hl hargs
  have hM0 : MemOf (fun b => w.heap[b]?) (fun _ => (0, 0)) (fun _ _ => none) [] w := ⟨fun k b h => (by cases h), fun k b h => (by cases h), fun k k' b b' h => (by cases h), fun b o h => h, ⟨fun k e cs R h => (by cases h), fun k b o h => (by cases h), fun k k' b h => absurd rfl h⟩⟩
  have hc := (hs _ _ hM.ext hlent).out w vals (fun _ => (0, 0)) (fun _ _ => none) hM0 (args_rel _)
  refine hc.mono ?_
  rintro e w' ⟨v, ι', H', rfl, hv, hM', hP⟩
  have hno : ∀ b, ¬ LentB [] (fun _ => (0, 0)) (fun _ _ => none) b := fun b h => by
    rcases h with ⟨k, b0, h, _⟩ | ⟨k, h⟩
    · cases h
    · exact h rfl
  have hst : ∀ k, stOf (pre ++ post) k = (look k pre).or (look k post) := fun k => look_append _ _ _
  have hp1 : ∀ k x, look k pre = some x → stOf (pre ++ post) k = some x := fun k x h => by rw [hst, h]; rfl
  have hdj : ∀ k x, look k post = some x → look k pre = none := fun k x h => by
    have := List.all_eq_true.1 hdis _ (look_mem h)
    simpa using this
  have hp2 : ∀ k x, look k post = some x → stOf (pre ++ post) k = some x := fun k x h => by rw [hst, hdj k x h, h]; rfl
  have hback : ∀ k x, stOf (pre ++ post) k = some x → look k pre = some x ∨ (look k pre = none ∧ look k post = some x) := fun k x h => by
    rw [hst] at h
    cases hp : look k pre with
    | none => rw [hp] at h; exact .inr ⟨rfl, h⟩
    | some y => rw [hp] at h; exact .inl h
  have hgrow : ∀ b o, w.heap[b]? = some o → w'.heap[b]? = some o := fun b o h => hM'.ext b o h
  have hin : ∀ k b, look k pre = some (some b) → ∃ o, w.heap[(ι k).1]? = some o := fun k b h => by
    cases hb : b.blk with
    | true =>
      obtain ⟨arr, fr, h1, _⟩ := hM.boxes k b h hb
      exact ⟨_, h1⟩
    | false =>
      obtain ⟨e, cs, R, rfl⟩ := Box.res_of hb
      have h1 := (hM.res.holds k _ _ _ h).2
      cases ho : H k (ι k).1 with
      | none => exact absurd ho h1
      | some o => exact ⟨o, (hM.res.mem k _ o ho).2.1⟩
  have hout : ∀ k b, look k post = some (some b) → w.heap[(ι' k).1]? = none := fun k b h => hM'.apart k b h
  have hX : ∀ b, w.heap[b]? = none → X b = none := fun b h => by
    cases hx : X b with
    | none => rfl
    | some o => rw [hM.ext b o hx] at h; cases h
  generalize hκ : (fun k => if (look k pre).isSome = true then ι k else ι' k) = κ
  generalize hG : (fun k => if (look k pre).isSome = true then H k else H' k) = G
  have k1 : ∀ k x, look k pre = some x → κ k = ι k := fun k x h => by rw [← hκ]; exact if_pos (by rw [h]; rfl)
  have k2 : ∀ k, look k pre = none → κ k = ι' k := fun k h => by rw [← hκ]; exact if_neg (by rw [h]; decide)
  have g1 : ∀ k x, look k pre = some x → G k = H k := fun k x h => by rw [← hG]; exact if_pos (by rw [h]; rfl)
  have g2 : ∀ k, look k pre = none → G k = H' k := fun k h => by rw [← hG]; exact if_neg (by rw [h]; decide)
  have on1 : SameOn pre (stOf pre) (stOf (pre ++ post)) := fun k x h => h.trans (hp1 k x h).symm
  have on2 : SameOn post (stOf post) (stOf (pre ++ post)) := fun k x h => h.trans (hp2 k x h).symm
  have mn1 : ∀ k, (look k pre).isSome = true → κ k = ι k := fun k h => by
    obtain ⟨x, hx⟩ := Option.isSome_iff_exists.1 h
    exact k1 k x hx
  have mn2 : ∀ k, (look k post).isSome = true → κ k = ι' k := fun k h => by
    obtain ⟨x, hx⟩ := Option.isSome_iff_exists.1 h
    exact k2 k (hdj k x hx)
  have hcp : ∀ k b, look k pre = some (some b) → b.cells.all (CV.inUse pre) = true := fun k b h => by simpa using List.all_eq_true.1 hub _ (look_mem h)
  have hcq : ∀ k b, look k post = some (some b) → b.cells.all (CV.inUse post) = true := fun k b h => by simpa using List.all_eq_true.1 hup _ (look_mem h)
  have hHin : ∀ k b, H k b ≠ none → (∃ x, look k pre = some x) ∧ ∃ o, w.heap[b]? = some o := fun k b h => by
    cases ho : H k b with
    | none => exact absurd ho h
    | some o =>
      obtain ⟨⟨_, _, _, h1⟩, h2, _⟩ := hM.res.mem k b o ho
      exact ⟨⟨_, h1⟩, o, h2⟩
  have hHout : ∀ k b, H' k b ≠ none → w.heap[b]? = none := fun k b h => by
    cases ho : H' k b with
    | none => exact absurd ho h
    | some o => exact (hM'.res.mem k b o ho).2.2.2.2.1
  refine ⟨v, κ, G, rfl, LV.rel_means mn2 hur (LV.rel_on on2 hur hv), ?_, ?_⟩
  · refine ⟨fun k b hk hb => ?_, fun k b hk => ?_, fun k k' b b' hk hk' he => ?_, fun b o hb => hgrow b o (hM.ext b o hb), ?_⟩
    · rcases hback k _ hk with h | ⟨h, h'⟩
      · obtain ⟨arr, fr, q1, q2, q3, q4⟩ := hM.boxes k b h hb
        rw [k1 k _ h]
        exact ⟨arr, fr, hgrow _ _ q1, q2, q3, Box.rel_means mn1 (hcp k b h) (Box.rel_on on1 (hcp k b h) q4)⟩
      · obtain ⟨arr, fr, q1, q2, q3, q4⟩ := hM'.boxes k b h' hb
        rw [k2 k h]
        exact ⟨arr, fr, q1, q2, q3, Box.rel_means mn2 (hcq k b h') (Box.rel_on on2 (hcq k b h') q4)⟩
    · rcases hback k _ hk with h | ⟨h, h'⟩
      · rw [k1 k _ h]; exact hM.apart k b h
      · rw [k2 k h]; exact hX _ (hout k b h')
    · rcases hback k _ hk with h | ⟨h, h'⟩
      · rcases hback k' _ hk' with i | ⟨i, i'⟩
        · rw [k1 k _ h, k1 k' _ i] at he
          exact hM.inj k k' b b' h i he
        · rw [k1 k _ h, k2 k' i] at he
          obtain ⟨o, ho⟩ := hin k b h
          rw [he, hout k' b' i'] at ho
          cases ho
      · rcases hback k' _ hk' with i | ⟨i, i'⟩
        · rw [k2 k h, k1 k' _ i] at he
          obtain ⟨o, ho⟩ := hin k' b' i
          rw [← he, hout k b h'] at ho
          cases ho
        · rw [k2 k h, k2 k' i] at he
          exact hM'.inj k k' b b' h' i' he
    · refine ⟨fun k e cs R hk => ?_, fun k b o ho => ?_, fun k k' b q1 q2 => ?_⟩
      · rcases hback k _ hk with h | ⟨h, h'⟩
        · rw [k1 k _ h, g1 k _ h]; exact hM.res.holds k e cs R h
        · rw [k2 k h, g2 k h]; exact hM'.res.holds k e cs R h'
      · cases h : look k pre with
        | some x =>
          rw [g1 k x h] at ho
          obtain ⟨⟨e1, cs1, R1, q0⟩, q1, q2, q3, q4, q5⟩ := hM.res.mem k b o ho
          refine ⟨⟨e1, cs1, R1, hp1 k _ q0⟩, hgrow _ _ q1, q2, trivial, q4, fun j bj hj e2 => ?_⟩
          rcases hback j _ hj with i | ⟨i, i'⟩
          · rw [k1 j _ i] at e2; exact q5 j bj i e2
          · rw [k2 j i] at e2
            have := hout j bj i'
            rw [e2, q1] at this
            cases this
        | none =>
          rw [g2 k h] at ho
          obtain ⟨⟨e1, cs1, R1, q0⟩, q1, q2, q3, q4, q5⟩ := hM'.res.mem k b o ho
          refine ⟨⟨e1, cs1, R1, hp2 k _ q0⟩, q1, q2, trivial, hX b q4, fun j bj hj e2 => ?_⟩
          rcases hback j _ hj with i | ⟨i, i'⟩
          · rw [k1 j _ i] at e2
            obtain ⟨o2, ho2⟩ := hin j bj i
            rw [e2] at ho2
            rw [show w.heap[b]? = none from q4] at ho2
            cases ho2
          · rw [k2 j i] at e2; exact q5 j bj i' e2
      · cases h : look k pre with
        | some x =>
          rw [g1 k x h] at q1
          cases h2 : look k' pre with
          | some y => rw [g1 k' y h2] at q2; exact hM.res.apart k k' b q1 q2
          | none =>
            rw [g2 k' h2] at q2
            obtain ⟨_, o, ho⟩ := hHin k b q1
            rw [hHout k' b q2] at ho
            cases ho
        | none =>
          rw [g2 k h] at q1
          cases h2 : look k' pre with
          | some y =>
            rw [g1 k' y h2] at q2
            obtain ⟨_, o, ho⟩ := hHin k' b q2
            rw [hHout k b q1] at ho
            cases ho
          | none => rw [g2 k' h2] at q2; exact hM'.res.apart k k' b q1 q2
  · refine ⟨fun k b hk hn => ?_, fun k b hk hn => ?_, fun k b h => ?_, fun b hb _ => hP.frame b hb (hno b), hP.big, hP.os, hP.tape, hP.output⟩
    · rcases hback k _ hk with h | ⟨h, _⟩
      · exact ⟨⟨b, h⟩, k1 k _ h⟩
      · exact absurd h hn
    · rcases hback k _ hk with h | ⟨h, h'⟩
      · have h2 : look k pre = none := hn
        rw [h] at h2; cases h2
      · rw [k2 k h]
        rcases hP.new k b h' rfl with q | q
        · exact .inl q
        · exact absurd q (hno _)
    · cases hp : look k pre with
      | some x => rw [g1 k x hp] at h; exact .inr (.inr ⟨k, h⟩)
      | none =>
        rw [g2 k hp] at h
        rcases hP.newH k b h with q | q
        · exact .inl q
        · exact absurd q (hno _)
end
end Go.Lg
end
section
namespace Go.Lg
open Go Go.RowKit
section
variable {P : Program} {n : Nat} {ops os : List Oper} {acc : List Eff} {K : List Eff → St → Prop} {s : List (Nat × LV)} {bx : List (Nat × Option Box)} {X : Nat → Option Obj} {σ : St}
theorem range_flat {z : Array Value} {sz : Nat} (hs : z.size = sz) : ∀ m : Nat, ((List.range (m * sz)).map fun i => z[i % z.size]!) = (List.replicate m z.toList).flatten := by
  intro m
  induction m with
  | zero => simp
  | succ m ih =>
    rw [Nat.succ_mul, List.range_add, List.map_append, ih, List.replicate_succ', List.flatten_append]
    congr 1
    rw [List.map_map]
    simp only [List.flatten_cons, List.flatten_nil, List.append_nil]
    apply List.ext_getElem
    · simp [hs]
    · intro i h3 h4
      have hi : i < sz := by simpa [hs] using h4
      have h5 : i % sz = i := Nat.mod_eq_of_lt hi
      have h6 : i < z.size := by omega
      rw [List.getElem_map, Function.comp_apply, List.getElem_range, hs, Nat.mul_add_mod_self_right, h5, Array.getElem_toList]
      exact getElem!_pos z i h6
structure MadeOf (P : Program) (t : TypeId) (e : TypeId) (sz bytes : Nat) (z : List Value) : Prop where
  under : P.underlying t = some (.slice e)
  info : (P.info? e).map (fun i => (i.size, i.zero.map (fun z => z.cells), i.bytes)) = some (sz, some z.toArray, bytes)
  len : z.length = sz
end
end Go.Lg
end
section
namespace Go.Lg
open Go Go.RowKit Go.WideShapes
section
variable {P : Program} {n : Nat} {ops os : List Oper} {acc : List Eff} {K : List Eff → St → Prop} {s : List (Nat × LV)} {bx : List (Nat × Option Box)} {X : Nat → Option Obj} {σ : St}
theorem LOK.actV {op : Op} {ty : TypeId} {pos : String} {after : Array Edge} {g : Option (Nat × Bool)} {ft : List Nat} {nb : List (Nat × Option Box)}
    (h : ∀ σ', Agree ops ⟨none, op, ty, pos, after, g⟩ ⟨[], ft, nb⟩ σ σ' → ∀ (C : Ctx) (ι : Nat → Nat × Nat) (a : Act) (w : World), Rel n C ι σ' a w →
      ∃ v w' ι', (execOp a.eval ⟨none, op, ty, pos, after, g⟩).run P w = .ok (.value v) w' ∧ Rel n C ι' ⟨σ'.slots, nb ++ σ'.boxes, σ'.X⟩ a w') :
    LOK P n ops ⟨none, op, ty, pos, after, g⟩ σ ⟨[], ft, nb⟩ := by
  refine ⟨fun σ' ha C ι a w hr _ next Q hn => ?_⟩
  obtain ⟨v, w', ι', hrun, hr'⟩ := h σ' ha C ι a w hr
  unfold Oper.wp
  rw [hrun]
  exact hn ι' _ w' hr'
end
end Go.Lg
end
section
namespace Go.Lg
open Go Go.RowKit
section
variable {P : Program} {n : Nat} {ops os : List Oper} {acc : List Eff} {K : List Eff → St → Prop} {s : List (Nat × LV)} {bx : List (Nat × Option Box)} {X : Nat → Option Obj} {σ : St}
theorem LOK.cutLoSlc {d k off len sz l : Nat} {t : TypeId} {x y : Operand} {ty : TypeId} {pos : String} {after_ : Array Edge} {g : Option (Nat × Bool)} {kh : IntKind} (hx : σ.ev x = some (.sv (.one (.slc k off len sz)))) (hy : σ.ev y = some (.sv (.one (.val (.int kh (l : Nat))))))
    (ht : sliceOf P t = some sz) (hl : l < len) : LOK P n ops ⟨some d, .slice t x (some y) none none, ty, pos, after_, g⟩ σ ⟨[(d, .sv (.one (.slc k (off + l * sz) (len - l) sz)))], [], []⟩ :=
  LOK.value fun σ' ha C ι a w hr => by
    have h1 := hr.ev ((ha.ev (x := x) (by simp [Op.operands])).trans hx)
    have h2 : a.eval y = .int kh (l : Nat) := hr.ev ((ha.ev (x := y) (by simp [Op.operands])).trans hy)
    obtain ⟨e, hu, hsz⟩ := sliceOf_spec ht
    have hrun : ∀ b c : Nat, len ≤ c → (Instr.sliceAt t (.slice (some ⟨b, off, none⟩) len c) (some (.int kh (l : Nat))) none none).run P w = .ok (.slice (some ⟨b, off + l * sz, none⟩) (len - l) (c - l)) w := by
      intro b c hc
      have ha0 : (⟨b, off, none⟩ : Addr).add (l * sz) = ⟨b, off + l * sz, none⟩ := addr_add _ _ _
      simp [Instr.sliceAt, Instr.slice, run_underlying hu, Instr.sliceBounds, Instr.sliceBound, asIntOf, hsz, ha0]
      rw [if_pos (by omega)]
      have e : ¬ c = l := by omega
      simp [e]
    simp only [LV.rel, SV.rel, CV.rel] at h1 ⊢
    cases hk : σ'.stat k with
    | none => simp [hk] at h1
    | some bb =>
      cases bb with
      | none =>
        simp only [hk] at h1 ⊢
        obtain ⟨b, c, h1, h3⟩ := h1
        exact ⟨_, by simp only [execOp, h1, h2, Option.map_none, Option.map_some, Sem.run_bind, hrun b c h3, Result.andThen_ok, Sem.run_pure], b, c - l, rfl, by omega⟩
      | some b =>
        simp only [hk] at h1 ⊢
        obtain ⟨c, h1, h3, h4⟩ := h1
        refine ⟨_, by simp only [execOp, h1, h2, Option.map_none, Option.map_some, Sem.run_bind, hrun _ c h3, Result.andThen_ok, Sem.run_pure], c - l, rfl, by omega, ?_⟩
        have : l * sz + (c - l) * sz = c * sz := by rw [← Nat.add_mul]; congr 1; omega
        omega
theorem K.cutLoSlc {d k off len sz l off' len' : Nat} {t : TypeId} {x y : Operand} {ty : TypeId} {pos : String} {after_ : Array Edge} {g : Option (Nat × Bool)} {kh : IntKind} (hx : (⟨s, bx, X⟩ : St).ev x = some (.sv (.one (.slc k off len sz)))) (hy : (⟨s, bx, X⟩ : St).ev y = some (.sv (.one (.val (.int kh (l : Nat))))))
    (ht : sliceOf P t = some sz) (hl : l < len) (ho : off + l * sz = off') (hn : len - l = len') (hw : Want ops s g) (kont : RunK P n ops os ⟨(d, .sv (.one (.slc k off' len' sz))) :: s, bx, X⟩ (⟨[(d, .sv (.one (.slc k off' len' sz)))], [], []⟩ :: acc) K) :
    RunK P n ops (⟨some d, .slice t x (some y) none none, ty, pos, after_, g⟩ :: os) ⟨s, bx, X⟩ acc K := by
  subst ho hn
  exact RunK.g1 (LOK.cutLoSlc hx hy ht hl) hw kont
theorem LOK.clearSlc {k off len sz bytes : Nat} {t e el : TypeId} {x : Operand} {ty : TypeId} {pos : String} {after_ : Array Edge} {g : Option (Nat × Bool)} {cells cs' : List CV} {row : Bool} {z : List Value}
    (hx : σ.ev x = some (.sv (.one (.slc k off len sz)))) (hk : σ.stat k = some (some ⟨el, cells, row⟩)) (hM : MadeOf P t e sz bytes z) (hone : z.all Value.oneCell' = true) (hm : off + len * sz ≤ cells.length) (h0 : 0 < len) (hc : splice cells off ((List.replicate len z).flatten.map .val) = cs') :
    LOK P n ops ⟨none, .call ⟨.builtin .clear, #[x], #[t]⟩, ty, pos, after_, g⟩ σ ⟨[], [], [(k, some ⟨el, cs', row⟩)]⟩ :=
  LOK.actV fun σ' ha C ι a w hr => by
    subst hc
    have hk' := (ha.stat k (.inr (by simp))).trans hk
    have h1 := hr.ev ((ha.ev (x := x) (by simp [Op.operands, Call.operands])).trans hx)
    simp only [LV.rel, SV.rel, CV.rel, hk'] at h1
    obtain ⟨c, h1, hlc, hcs⟩ := h1
    obtain ⟨arr, fr, harr, hthaw, hasz, hrel⟩ := hr.boxes k _ hk' rfl
    obtain ⟨hu, hi, hl⟩ := hM
    have hfl : (List.replicate len z).flatten.length = len * sz := by
      rw [List.length_flatten, List.map_replicate, List.sum_replicate_nat, hl]
    have hbl : off + (List.replicate len z).flatten.length ≤ arr.size := by
      have := (Box.rel_part hrel (off := off) (m := len * sz) (by simpa using hm)).1
      simp at this
      rw [hfl]; omega
    have hones : ∀ v ∈ (List.replicate len z).flatten, v.oneCell' = true := fun v hv => by
      obtain ⟨l, hl1, hv⟩ := List.mem_flatten.1 hv
      rw [(List.mem_replicate.1 hl1).2] at hv
      exact List.all_eq_true.1 hone v hv
    cases hie : P.info? e with
    | none => rw [hie] at hi; cases hi
    | some ie =>
      rw [hie] at hi
      simp only [Option.map_some, Option.some.injEq, Prod.mk.injEq] at hi
      obtain ⟨e1, e2, e3⟩ := hi
      cases hz : ie.zero with
      | none => rw [hz] at e2; cases e2
      | some zv =>
        rw [hz] at e2
        simp only [Option.map_some, Option.some.injEq] at e2
        have hzc : (Builtin.zeroCells zv.cells len).toList = (List.replicate len z).flatten := by
          unfold Builtin.zeroCells
          have := range_flat (z := z.toArray) (sz := sz) (by simpa using hl) len
          simp only at this
          rw [e2, Array.toList_map, Array.toList_range]
          simpa [hl] using this
        have hst := run_storeCells_at (P := P) hthaw (List.replicate len z).flatten off 0 arr w rfl harr (by simpa using hbl) hones
        simp only [Nat.add_zero] at hst
        have hzr : (zeroValue e).run P w = .ok zv w := by simp [zeroValue, typeInfo, hie, hz]
        have hrun : (Builtin.clear_ #[t] ty #[.slice (some ⟨(ι k).1, off, none⟩) len c]).run P w = .ok (.tuple #[]) (w.setRow (ι k).1 (splice arr.toList off (List.replicate len z).flatten).toArray) := by
          obtain ⟨m, rfl⟩ : ∃ m, len = m + 1 := ⟨len - 1, by omega⟩
          simp [Builtin.clear_, run_underlying hu, hzr, hzc, hst, Result.andThen]
          simp [splice]
        refine ⟨.tuple #[], w.setRow (ι k).1 (splice arr.toList off (List.replicate len z).flatten).toArray, ι, by simp [execOp, resolve, invoke, builtin, h1, hrun, Result.andThen], ?_⟩
        exact hr.write hk' rfl rfl (b' := ⟨el, splice cells off ((List.replicate len z).flatten.map .val), row⟩) (by rw [← hasz]; unfold splice; simp at hbl ⊢; omega) (Box.rel_splice (b := ⟨el, cells, row⟩) hrel (CVs.rel_map_val _) (by rw [List.length_map, hfl]; exact hm))
theorem K.clearSlc {k off len sz bytes : Nat} {t e el : TypeId} {x : Operand} {ty : TypeId} {pos : String} {after_ : Array Edge} {g : Option (Nat × Bool)} {cells cs' : List CV} {row : Bool} {z : List Value}
    (hx : (⟨s, bx, X⟩ : St).ev x = some (.sv (.one (.slc k off len sz)))) (hk : (⟨s, bx, X⟩ : St).stat k = some (some ⟨el, cells, row⟩)) (hM : MadeOf P t e sz bytes z) (hone : z.all Value.oneCell' = true) (hm : off + len * sz ≤ cells.length) (h0 : 0 < len) (hc : splice cells off ((List.replicate len z).flatten.map .val) = cs') (hw : Want ops s g)
    (kont : RunK P n ops os ⟨s, (k, some ⟨el, cs', row⟩) :: bx, X⟩ (⟨[], [], [(k, some ⟨el, cs', row⟩)]⟩ :: acc) K) :
    RunK P n ops (⟨none, .call ⟨.builtin .clear, #[x], #[t]⟩, ty, pos, after_, g⟩ :: os) ⟨s, bx, X⟩ acc K := RunK.g3 (LOK.clearSlc hx hk hM hone hm h0 hc) hw kont
end
end Go.Lg
end
section
namespace Go.Proofs.YtbpdbclndfmcgaaGreatDoor
open Go Go.Lg Go.Lg.Fld Go.Lg.Sg Go.Lg.Col
set_option maxRecDepth 100000
abbrev Zp := Cp × Value
def rowsP (zs : List Zp) : List Value := rowsZ (zs.map (·.1)) (zs.map (·.2))
theorem rowsP_len (zs : List Zp) : (rowsP zs).length = zs.length * 3 := by
  unfold rowsP
  rw [rowsZ_len (by rw [List.length_map, List.length_map]), List.length_map]
theorem rowsP_app (a b : List Zp) : rowsP (a ++ b) = rowsP a ++ rowsP b := by
  unfold rowsP
  rw [List.map_append, List.map_append, rowsZ_app (by rw [List.length_map, List.length_map])]
theorem rowsP_cons (z : Zp) (l : List Zp) : rowsP (z :: l) = [.int .i64 z.1.id, .string ⟨z.1.nm.toArray⟩, z.2] ++ rowsP l := rfl
theorem rowsZ_zip {cs : List Cp} {cells : List Value} (h : cells.length = cs.length) : rowsZ cs cells = rowsP (cs.zip cells) := by
  unfold rowsP
  rw [List.map_fst_zip (by omega), List.map_snd_zip (by omega)]
abbrev kept (keep : Cp → Bool) (zs : List Zp) : List Zp := zs.filter fun z => keep z.1
variable (X : Nat → Option Obj)
theorem idxP_lent {S : Nat → Option (Option Box)} {el fel : TypeId} {row : Bool} {zs : List Zp} {k : Nat} (hk : S k = some (some ⟨el, (rowsP zs).map .val, row⟩)) (hG : ∀ z ∈ zs, SliceZ X z.2 fel 3 (flV z.1.fs)) (hb : InB (zs.map (·.1))) (hn : zs.length ≤ 65536) (f : FuncId) (caps : List Value) (p : Cp → Bool)
    (hp : ∀ Y : Nat → Option Obj, (∀ b o, X b = some o → Y b = some o) → ∀ (c : Cp) fad fcap, PSpec Tryz.prog Y f ([Cx c fad fcap] ++ caps.map fun v => .sv (.one (.val v))) (Lb (p c))) :
    ∀ (Y : Nat → Option Obj) (us : List Value), (∀ b o, X b = some o → Y b = some o) → LentLs S Y [.sv (.one (.slc k 0 zs.length 3)), Lf f caps] us → PSpec Tryz.prog Y 80 (us.map toLV) (Ln .i64 (findI p (zs.map (·.1)))) := by
  intro Y us hY hL
  obtain ⟨u1, us1, rfl, ⟨b, blk, cap2, m, hk', rfl, hc, hfit, hB⟩, u2, us2, rfl, h2, rfl⟩ := hL
  rw [hk] at hk'
  simp only [Option.some.injEq] at hk'
  subst hk'
  obtain ⟨arr, fr, us', sp, hYb, hsz, harr, hv⟩ := hB
  have := hv _ rfl
  subst this
  have h2 : u2 = .func (.func f) #[] caps.toArray := h2
  subst h2
  have hin : CompsIn Y (some ⟨blk, 0, none⟩) (zs.map (·.1)) := comps_block (fel := fel) hYb harr (by rw [List.length_map, List.length_map]) hb fun i c v hc hv => by
    rw [List.getElem?_map] at hc hv
    obtain ⟨z, hz, rfl⟩ := Option.map_eq_some_iff.1 hc
    rw [hz] at hv
    simp only [Option.map_some, Option.some.injEq] at hv
    subst hv
    have hs := hG z (List.mem_of_getElem? hz)
    refine hs.mono fun b hb' => ?_
    have hne := hs.some_of hb'
    cases hx : X b with
    | none => exact absurd hx hne
    | some o => exact hY b o hx
  have := idxC_spec Y (some ⟨blk, 0, none⟩) cap2 (zs.map (·.1)) hin (by rw [List.length_map]; omega) f caps p fun c _ => hp Y hY c
  rw [List.length_map] at this
  exact this
set_option maxHeartbeats 6400000 in
theorem delC (zs : List Zp) {fel : TypeId} (hG : ∀ z ∈ zs, SliceZ X z.2 fel 3 (flV z.1.fs)) (hb : InB (zs.map (·.1))) (hn : zs.length ≤ 65536) (rw_ : Bool) (f : FuncId) (caps : List Value) (keep : Cp → Bool)
    (hp : ∀ Y : Nat → Option Obj, (∀ b o, X b = some o → Y b = some o) → ∀ (c : Cp) fad fcap, PSpec Tryz.prog Y f ([Cx c fad fcap] ++ caps.map fun v => .sv (.one (.val v))) (Lb (!keep c))) :
    MSpec Tryz.prog X 70 [.sv (.one (.slc 1000000 0 zs.length 3)), Lf f caps] [(1000000, some ⟨86, (rowsP zs).map .val, rw_⟩)] (.sv (.one (.slc 1000000 0 (kept keep zs).length 3)))
      [(1000000, some ⟨86, (rowsP (kept keep zs) ++ zer (zs.length - (kept keep zs).length)).map .val, rw_⟩)] := by
  have hidx : ∀ {S : Nat → Option (Option Box)} {row : Bool}, S 1000000 = some (some ⟨86, (rowsP zs).map .val, row⟩) → _ := fun {S row} hk => idxP_lent X (S := S) (row := row) hk hG hb hn f caps (fun c => !keep c) hp
  refine MSpec.intro Tryz.func70 rfl (by kernel_rfl) rfl rfl (by exact (by repeat' (first | refine all_cons_true ?_ ?_ | rfl | exact bytes_inUse | exact vals_inUse | exact mid_inUse rfl))) rfl rfl ?_
  intro C
  cases hfi : (zs.map (·.1)).findIdx? (fun c => !keep c) with
  | none =>
    have hall : kept keep zs = zs := List.filter_eq_self.2 fun z hz => by
      have := List.findIdx?_eq_none_iff.1 hfi z.1 (List.mem_map.2 ⟨z, hz, rfl⟩)
      simpa using this
    rw [hall, Nat.sub_self, show zer 0 = [] from rfl, List.append_nil]
    have hI : findI (fun c => !keep c) (zs.map (·.1)) = -1 := by unfold findI; rw [hfi]
    rw [hI] at hidx
    (refine LWP.seq <| rgN <| kas rfl <| RunK.nil <| LWP.seq <| rgN <| kmv rfl <| kmv rfl <| K.callL [1000000] rfl rfl rfl (hidx rfl) .plain ?_; refine kas rfl <| RunK.nil <| LWP.seq <| LWP.seq <| rgN <| kmv rfl <| keq rfl rfl (r := true) rfl <| RunK.nil <| LWP.condT rfl ?_; refine LWP.seq <| rgN <| kmv rfl <| kas rfl <| RunK.nil <| LWP.ret ?_)
    exact ⟨[], ⟨[_], ⟨rfl, trivial⟩, rfl⟩, (by repeat' (first | exact trivial | refine And.intro ⟨_, rfl, ?_⟩ ?_ | refine And.intro ⟨_, rfl⟩ ?_ | rfl | exact Box.ren_bytes _ _ _ _ | exact Box.ren_vals _ _ _ _ | exact Box.ren_mid rfl)), rfl, rfl⟩
  | some i0 =>
    obtain ⟨hi0, h1, h2⟩ := List.findIdx?_eq_some_iff_getElem.1 hfi
    rw [List.length_map] at hi0
    have hI : findI (fun c => !keep c) (zs.map (·.1)) = (i0 : Nat) := by unfold findI; rw [hfi]
    rw [hI] at hidx
    have hadd : IntKind.i64.wrap (((i0 : Nat) : Int) + 1) = ((i0 + 1 : Nat) : Int) := by rw [wrap_i64 (by omega)]; omega
    obtain ⟨z0, hz0⟩ : ∃ z, zs[i0]? = some z := ⟨_, List.getElem?_eq_getElem hi0⟩
    have hk0 : keep z0.1 = false := by
      have e : z0 = zs[i0] := by rw [List.getElem?_eq_getElem hi0] at hz0; exact (Option.some.inj hz0).symm
      rw [List.getElem_map] at h1
      rw [e]; simpa using h1
    have hpre : kept keep (zs.take i0) = zs.take i0 := List.filter_eq_self.2 fun z hz => by
      obtain ⟨j, hj, e⟩ := List.mem_take_iff_getElem.1 hz
      have := h2 j (by omega)
      rw [List.getElem_map] at this
      rw [← e]; simpa using this
    have hF0 : kept keep (zs.take (i0 + 1)) = zs.take i0 := by
      rw [take_snoc hz0]
      show (zs.take i0 ++ [z0]).filter _ = _
      rw [List.filter_append, show (zs.take i0).filter (fun z => keep z.1) = zs.take i0 from hpre, List.filter_cons, if_neg (by rw [hk0]; decide)]
      simp
    have hlt0 : (zs.take i0).length = i0 := by rw [List.length_take]; omega
    (refine LWP.seq <| rgN <| kas rfl <| RunK.nil <| LWP.seq <| rgN <| kmv rfl <| kmv rfl <| K.callL [1000000] rfl rfl rfl (hidx rfl) .plain ?_; refine kas rfl <| RunK.nil <| LWP.seq <| LWP.seq <| rgN <| kmv rfl <| keq rfl rfl (r := false) (beq_eq_false_iff_ne.2 (by omega)) <| RunK.nil <| LWP.condF rfl ?_; refine LWP.skip ?_; refine LWP.seq <| LWP.seq <| rgN <| kmv rfl <| kad rfl rfl hadd <| kas rfl <| RunK.nil <| LWP.block ?_)
    refine LWP.loop (fun m σ => ∃ (j : Nat) (mid : List Value), j ≤ zs.length ∧ m = zs.length - j ∧ (kept keep (zs.take j)).length < j ∧ mid.length = (j - (kept keep (zs.take j)).length) * 3 ∧ σ = ⟨[(0, .sv (.one (.slc 1000000 0 zs.length 3))), (1, Lf f caps), (5, Ln .i64 ((kept keep (zs.take j)).length : Nat)), (6, Ln .i64 (j : Nat))], [(1000000, some ⟨86, (rowsP (kept keep (zs.take j)) ++ (mid ++ rowsP (zs.drop j))).map .val, rw_⟩)], X⟩) (zs.length - (i0 + 1))
      ⟨⟨[(0, .sv (.one (.slc 1000000 0 zs.length 3))), (1, Lf f caps), (5, Ln .i64 (i0 : Nat)), (6, Ln .i64 (i0 + 1 : Nat))], [(1000000, some ⟨86, (rowsP zs).map .val, rw_⟩)], X⟩, Le.of (by exact ⟨rfl, rfl, rfl, rfl, trivial⟩) (by exact ⟨rfl, trivial⟩) (by exact rfl) (by exact rfl) (by repeat' (first | refine all_cons_true ?_ ?_ | rfl | exact bytes_inUse | exact vals_inUse | exact mid_inUse rfl)), i0 + 1, [.int .i64 z0.1.id, .string ⟨z0.1.nm.toArray⟩, z0.2], by omega, by omega, by rw [hF0, hlt0]; omega, by rw [hF0, hlt0, Nat.add_sub_cancel_left]; rfl, by
        rw [hF0, hlt0, ← rowsP_cons, ← rowsP_app, ← mid_of hz0]⟩ ?_
    rintro m σ ⟨j, mid, hj, rfl, hij, hmid, rfl⟩
    by_cases hlt : j < zs.length
    · obtain ⟨z, hz⟩ : ∃ z, zs[j]? = some z := ⟨_, List.getElem?_eq_getElem hlt⟩
      obtain ⟨c, v⟩ := z
      obtain ⟨fad, fcap, hv, _⟩ := leaf_in (hG _ (List.mem_of_getElem? hz)) (hb c (List.mem_map.2 ⟨_, List.mem_of_getElem? hz, rfl⟩)).2
      have hv : v = .slice fad c.fs.length fcap := hv
      subst hv
      have hP := hp X (fun _ _ h => h) c fad fcap
      have hdrop : zs.drop j = (c, .slice fad c.fs.length fcap) :: zs.drop (j + 1) := (drop_at hz)
      have hsn := take_snoc hz
      have hadd2 : IntKind.i64.wrap (((j : Nat) : Int) + 1) = ((j + 1 : Nat) : Int) := by rw [wrap_i64 (by omega)]; omega
      have hix : 0 + Int.toNat ((j : Nat) : Int) * 3 = j * 3 := by rw [Int.toNat_natCast]; omega
      have hfl : (rowsP (kept keep (zs.take j)) ++ mid).length = j * 3 := by rw [List.length_append, rowsP_len, hmid]; omega
      have hlen : (rowsP (kept keep (zs.take j)) ++ (mid ++ rowsP (zs.drop j))).length = zs.length * 3 := by rw [← List.append_assoc, List.length_append, hfl, rowsP_len, List.length_drop]; omega
      have hbl : Nat.ble (j * 3 + 3) ((rowsP (kept keep (zs.take j)) ++ (mid ++ rowsP (zs.drop j))).map CV.val).length = true := by rw [Nat.ble_eq, List.length_map, hlen]; omega
      have hcs : (((rowsP (kept keep (zs.take j)) ++ (mid ++ rowsP (zs.drop j))).map CV.val).drop (j * 3)).take 3 = [.val (.int .i64 c.id), .val (.string ⟨c.nm.toArray⟩), .val (.slice fad c.fs.length fcap)] := by
        rw [← List.map_drop, ← List.append_assoc, ← hfl, List.drop_left, hdrop, rowsP_cons, ← List.map_take]; rfl
      cases hkp : keep c with
      | true =>
        rw [hkp] at hP
        have hF1 : kept keep (zs.take (j + 1)) = kept keep (zs.take j) ++ [(c, .slice fad c.fs.length fcap)] := by
          rw [hsn]
          show (zs.take j ++ [_]).filter _ = _
          rw [List.filter_append, List.filter_cons, if_pos hkp]; rfl
        obtain ⟨m0, m1, m2, mid', rfl⟩ : ∃ m0 m1 m2 mid', mid = m0 :: m1 :: m2 :: mid' := by
          match mid, hmid with
          | m0 :: m1 :: m2 :: mid', _ => exact ⟨m0, m1, m2, mid', rfl⟩
          | [], h => simp at h; omega
          | [_], h => simp at h; omega
          | [_, _], h => simp at h; omega
        have hixi : 0 + Int.toNat (((kept keep (zs.take j)).length : Nat) : Int) * 3 = (kept keep (zs.take j)).length * 3 := by rw [Int.toNat_natCast]; omega
        have hroom : (kept keep (zs.take j)).length * 3 + 3 ≤ ((rowsP (kept keep (zs.take j)) ++ (m0 :: m1 :: m2 :: mid' ++ rowsP (zs.drop j))).map CV.val).length := by rw [List.length_map, hlen]; omega
        have hspl : splice ((rowsP (kept keep (zs.take j)) ++ (m0 :: m1 :: m2 :: mid' ++ rowsP (zs.drop j))).map CV.val) ((kept keep (zs.take j)).length * 3) [.val (.int .i64 c.id), .val (.string ⟨c.nm.toArray⟩), .val (.slice fad c.fs.length fcap)] = (rowsP (kept keep (zs.take (j + 1))) ++ ((mid' ++ [Value.int .i64 c.id, Value.string ⟨c.nm.toArray⟩, Value.slice fad c.fs.length fcap]) ++ rowsP (zs.drop (j + 1)))).map CV.val := by
          rw [hF1, rowsP_app, hdrop, rowsP_cons, rowsP_cons, show rowsP [] = [] from rfl]
          have hml : ((rowsP (kept keep (zs.take j))).map CV.val).length = (kept keep (zs.take j)).length * 3 := by rw [List.length_map, rowsP_len]
          unfold splice
          simp only [List.map_append, List.map_cons, List.map_nil, List.append_assoc, List.cons_append, List.nil_append]
          generalize (rowsP (kept keep (zs.take j))).map CV.val = R at *
          rw [← hml, List.take_left, List.drop_length_add_append]
          simp
        have haddi : IntKind.i64.wrap ((((kept keep (zs.take j)).length : Nat) : Int) + 1) = (((kept keep (zs.take (j + 1))).length : Nat) : Int) := by rw [hF1, List.length_append, wrap_i64 (by omega)]; simp
        have hi1 : (kept keep (zs.take (j + 1))).length = (kept keep (zs.take j)).length + 1 := by rw [hF1, List.length_append]; rfl
        generalize (kept keep (zs.take j)).length = i at *
        generalize (rowsP (kept keep (zs.take j)) ++ (m0 :: m1 :: m2 :: mid' ++ rowsP (zs.drop j))) = cells at *
        (refine LWP.seq <| LWP.seq <| rgN <| kmv rfl <| kmv rfl <| K.lenSlc rfl SliceT.h rfl .plain ?_; refine klt rfl rfl (decide_eq_true (by omega)) <| RunK.nil <| LWP.condT rfl ?_; refine LWP.skip ?_; refine LWP.seq <| LWP.block <| LWP.seq <| rgN <| kmv rfl <| kmv rfl <| K.indexSlc rfl rfl (by omega) hix .plain ?_; refine K.loadPart rfl rfl hbl hcs .plain ?_; refine K.alloc rfl .plain ?_; refine K.storeAll rfl rfl rfl rfl rfl rfl .plain ?_; refine RunK.nil <| LWP.seq <| rgN <| kmv rfl <| K.loadAll rfl rfl rfl .plain ?_; refine K.callF rfl rfl rfl hP .plain ?_; refine K.not rfl rfl .plain <| RunK.nil <| LWP.condT rfl ?_; refine LWP.seq <| rgN <| kmv rfl <| kmv rfl <| K.loadAll rfl rfl rfl .plain ?_; refine K.indexSlc rfl rfl (by omega) hixi .plain ?_; refine K.store rfl rfl rfl rfl (by kernel_rfl) hroom hspl .plain <| RunK.nil <| rgN <| kmv rfl <| kad rfl rfl haddi <| kas rfl <| RunK.nil <| rgN <| kmv rfl <| kad rfl rfl hadd2 <| kas rfl <| RunK.nil ?_)
        refine ⟨_, ⟨[(0, .sv (.one (.slc 1000000 0 zs.length 3))), (1, Lf f caps), (5, Ln .i64 ((kept keep (zs.take (j + 1))).length : Nat)), (6, Ln .i64 (j + 1 : Nat))], [(1000000, some ⟨86, (rowsP (kept keep (zs.take (j + 1))) ++ ((mid' ++ [Value.int .i64 c.id, Value.string ⟨c.nm.toArray⟩, Value.slice fad c.fs.length fcap]) ++ rowsP (zs.drop (j + 1)))).map CV.val, rw_⟩)], X⟩, (by omega : zs.length - (j + 1) < zs.length - j), Le.of (by exact ⟨rfl, rfl, rfl, rfl, trivial⟩) (by exact ⟨rfl, trivial⟩) (by exact rfl) (by exact rfl) (by repeat' (first | refine all_cons_true ?_ ?_ | rfl | exact bytes_inUse | exact vals_inUse | exact mid_inUse rfl)), j + 1, mid' ++ [Value.int .i64 c.id, Value.string ⟨c.nm.toArray⟩, Value.slice fad c.fs.length fcap], by omega, rfl, by omega, ?_, rfl⟩
        simp only [List.length_cons] at hmid
        rw [List.length_append, hi1]
        simp only [List.length_cons, List.length_nil]
        omega
      | false =>
        rw [hkp] at hP
        have hF1 : kept keep (zs.take (j + 1)) = kept keep (zs.take j) := by
          rw [hsn]
          show (zs.take j ++ [_]).filter _ = _
          rw [List.filter_append, List.filter_cons, if_neg (by rw [hkp]; decide)]; simp
        have hcells : (rowsP (kept keep (zs.take j)) ++ (mid ++ rowsP (zs.drop j))) = rowsP (kept keep (zs.take (j + 1))) ++ ((mid ++ [Value.int .i64 c.id, Value.string ⟨c.nm.toArray⟩, Value.slice fad c.fs.length fcap]) ++ rowsP (zs.drop (j + 1))) := by
          rw [hF1, hdrop, rowsP_cons]; simp
        have hi1 : (kept keep (zs.take (j + 1))).length = (kept keep (zs.take j)).length := by rw [hF1]
        rw [← hi1]
        rw [hcells] at hbl hcs ⊢
        generalize hii : (kept keep (zs.take (j + 1))).length = i at *
        generalize hcc : (rowsP (kept keep (zs.take (j + 1))) ++ ((mid ++ [Value.int .i64 c.id, Value.string ⟨c.nm.toArray⟩, Value.slice fad c.fs.length fcap]) ++ rowsP (zs.drop (j + 1)))) = cells at *
        (refine LWP.seq <| LWP.seq <| rgN <| kmv rfl <| kmv rfl <| K.lenSlc rfl SliceT.h rfl .plain ?_; refine klt rfl rfl (decide_eq_true (by omega)) <| RunK.nil <| LWP.condT rfl ?_; refine LWP.skip ?_; refine LWP.seq <| LWP.block <| LWP.seq <| rgN <| kmv rfl <| kmv rfl <| K.indexSlc rfl rfl (by omega) hix .plain ?_; refine K.loadPart rfl rfl hbl hcs .plain ?_; refine K.alloc rfl .plain ?_; refine K.storeAll rfl rfl rfl rfl rfl rfl .plain ?_; refine RunK.nil <| LWP.seq <| rgN <| kmv rfl <| K.loadAll rfl rfl rfl .plain ?_; refine K.callF rfl rfl rfl hP .plain ?_; refine K.not rfl rfl .plain <| RunK.nil <| LWP.condF rfl ?_; refine LWP.skip ?_; refine rgN <| kmv rfl <| kad rfl rfl hadd2 <| kas rfl <| RunK.nil ?_)
        refine ⟨_, ⟨[(0, .sv (.one (.slc 1000000 0 zs.length 3))), (1, Lf f caps), (5, Ln .i64 (i : Nat)), (6, Ln .i64 (j + 1 : Nat))], [(1000000, some ⟨86, cells.map CV.val, rw_⟩)], X⟩, (by omega : zs.length - (j + 1) < zs.length - j), Le.of (by exact ⟨rfl, rfl, rfl, rfl, trivial⟩) (by exact ⟨rfl, trivial⟩) (by exact rfl) (by exact rfl) (by repeat' (first | refine all_cons_true ?_ ?_ | rfl | exact bytes_inUse | exact vals_inUse | exact mid_inUse rfl)), j + 1, mid ++ [Value.int .i64 c.id, Value.string ⟨c.nm.toArray⟩, Value.slice fad c.fs.length fcap], by omega, rfl, by omega, ?_, by rw [hii, hcc]⟩
        rw [List.length_append, hmid, hii]
        simp only [List.length_cons, List.length_nil]
        omega
    · have e : j = zs.length := by omega
      subst e
      have htk : zs.take zs.length = zs := List.take_length
      rw [htk] at hij hmid ⊢
      have hmk : MadeOf Tryz.prog 22 86 3 48 [Value.int .i64 0, Value.string ⟨#[]⟩, Value.slice none 0 0] := ⟨by kernel_rfl, by kernel_rfl, rfl⟩
      have hcl : (rowsP (kept keep zs) ++ (mid ++ rowsP (zs.drop zs.length))) = rowsP (kept keep zs) ++ mid := by rw [List.drop_length]; show _ ++ (mid ++ []) = _; rw [List.append_nil]
      rw [hcl]
      have hlen : (rowsP (kept keep zs) ++ mid).length = zs.length * 3 := by rw [List.length_append, rowsP_len, hmid]; omega
      have hoff : 0 + (kept keep zs).length * 3 = (kept keep zs).length * 3 := Nat.zero_add _
      have hroom : (kept keep zs).length * 3 + (zs.length - (kept keep zs).length) * 3 ≤ ((rowsP (kept keep zs) ++ mid).map CV.val).length := by rw [List.length_map, hlen]; omega
      have hclr : splice ((rowsP (kept keep zs) ++ mid).map CV.val) ((kept keep zs).length * 3) ((List.replicate (zs.length - (kept keep zs).length) [Value.int .i64 0, Value.string ⟨#[]⟩, Value.slice none 0 0]).flatten.map CV.val) = (rowsP (kept keep zs) ++ zer (zs.length - (kept keep zs).length)).map CV.val := by
        have hzl : ((zer (zs.length - (kept keep zs).length)).map CV.val).length = (zs.length - (kept keep zs).length) * 3 := by rw [List.length_map, zer_len]
        have hml : ((rowsP (kept keep zs)).map CV.val).length = (kept keep zs).length * 3 := by rw [List.length_map, rowsP_len]
        show splice _ _ ((zer (zs.length - (kept keep zs).length)).map CV.val) = _
        unfold splice
        rw [List.map_append, List.map_append, ← hml, List.take_left, List.drop_eq_nil_of_le (by rw [List.length_append, hml, hzl, List.length_map, hmid]; omega), List.append_nil]
      generalize (kept keep zs).length = i at *
      generalize rowsP (kept keep zs) ++ mid = cells at *
      (refine LWP.seq <| LWP.seq <| rgN <| kmv rfl <| kmv rfl <| K.lenSlc rfl SliceT.h rfl .plain ?_; refine klt rfl rfl (decide_eq_false (by omega)) <| RunK.nil <| LWP.condF rfl ?_; refine LWP.exit <| LWP.seq <| rgN <| kmv rfl <| kmv rfl <| K.cutLoSlc rfl rfl SliceT.h (by omega) hoff rfl .plain ?_; refine K.clearSlc rfl rfl hmk rfl hroom (by omega) hclr .plain ?_; refine RunK.nil <| LWP.seq <| rgN <| kmv rfl <| kmv rfl <| K.cutSlc rfl rfl SliceT.h (by omega) .plain <| kas rfl <| RunK.nil <| LWP.ret ?_)
      exact ⟨[], ⟨[_], ⟨rfl, trivial⟩, rfl⟩, (by repeat' (first | exact trivial | refine And.intro ⟨_, rfl, ?_⟩ ?_ | refine And.intro ⟨_, rfl⟩ ?_ | rfl | exact Box.ren_bytes _ _ _ _ | exact Box.ren_vals _ _ _ _ | exact Box.ren_mid rfl)), rfl, rfl⟩
end Go.Proofs.YtbpdbclndfmcgaaGreatDoor
end
section
namespace Go.Proofs.YtbpdbclndfmcgaaGreatDoor
open Go Go.Lg Go.Lg.Fld Go.Lg.Sg Go.Lg.Col
set_option maxRecDepth 100000
def cmR (cs : List Cp) : Rsc := ⟨fun ρ H => (∃ (arr : Array Value) (fr : Nat × Nat), H ρ.1 = some (.cells arr 86 fr) ∧ arr.size = ρ.2) ∧ CompsIn H (some ⟨ρ.1, 0, none⟩) cs⟩
abbrev cmB (k : Nat) (cs : List Cp) : Nat × Option Box := (k, some ⟨0, [], .res (cmR cs)⟩)
variable (X : Nat → Option Obj)
theorem only1_spec (set : Nat) (hset : set < 4294967296) (c : Cp) (fad : Option Addr) (fcap : Nat) {b : Nat} {arr : Array Value} {el : TypeId} {fr : Nat × Nat} (hX : X b = some (.cells arr el fr)) (h0 : arr[0]? = some (.int .u32 (set : Nat))) :
    PSpec Tryz.prog X 71 [Cx c fad fcap, Vp b] (Lb (!hasB set c.id)) := by
  have hh := gHas X set hset c.id
  refine PSpec.intro Tryz.func71 rfl (by kernel_rfl) rfl rfl ?_
  intro C
  generalize hasB set c.id = q at *
  cases q with
  | true =>
    (refine LWP.seq <| rgN <| K.box rfl rfl rfl .plain <| kas rfl <| RunK.nil <| LWP.seq <| rgN <| K.loadX rfl hX rfl h0 .plain <| kfa rfl rfl ?_; refine kl1 rfl rfl rfl <| kca rfl rfl hh <| K.not rfl rfl .plain <| kas rfl <| RunK.nil <| LWP.ret ?_)
    exact ⟨[_], ⟨rfl, trivial⟩, rfl⟩
  | false =>
    (refine LWP.seq <| rgN <| K.box rfl rfl rfl .plain <| kas rfl <| RunK.nil <| LWP.seq <| rgN <| K.loadX rfl hX rfl h0 .plain <| kfa rfl rfl ?_; refine kl1 rfl rfl rfl <| kca rfl rfl hh <| K.not rfl rfl .plain <| kas rfl <| RunK.nil <| LWP.ret ?_)
    exact ⟨[_], ⟨rfl, trivial⟩, rfl⟩
set_option maxHeartbeats 6400000 in
theorem only0 (ver : Int) (ad : Option Addr) (cap : Nat) (cs : List Cp) (set : Nat) (hset : set < 4294967296) (hin : CompsIn X ad cs) (hn : cs.length ≤ 65536) (hfb : ∀ c ∈ cs, c.fs.length ≤ 4398046511104) :
    MSpec Tryz.prog X 38 [Sx ver ad cs.length cap, Ln .u32 (set : Nat)] [] (.sv (.agg [.val (.int .i64 ver), .slc 1000001 0 (onlyC cs set).length 3])) [cmB 1000001 (onlyC cs set)] := by
  refine MSpec.intro Tryz.func38 rfl (by kernel_rfl) rfl rfl (by exact (by repeat' (first | refine all_cons_true ?_ ?_ | rfl | exact bytes_inUse | exact vals_inUse | exact mid_inUse rfl))) rfl rfl ?_
  intro C
  refine LWP.ends ?_
  (refine LWP.seq <| rgN <| K.box rfl rfl rfl .plain <| K.box1 rfl rfl rfl .plain <| K.alloc rfl .plain ?_; refine RunK.nil <| LWP.seq ?_)
  refine LWP.le (σ' := ⟨[(3, Lp 3), (2, Lp 2), (4, Lp 4)], [(3, some ⟨31, [Value.int .u32 (set : Nat)].map .val, false⟩), sxB 2 ver ad cs.length cap, (4, some ⟨24, [.val (.int .i64 0), .val (.slice none 0 0)], false⟩)], X⟩) (Le.of (by exact ⟨rfl, rfl, rfl, trivial⟩) (by exact ⟨rfl, rfl, rfl, trivial⟩) (by exact rfl) (by exact rfl) (by repeat' (first | refine all_cons_true ?_ ?_ | rfl | exact bytes_inUse | exact vals_inUse | exact mid_inUse rfl))) ?_
  refine LWP.freezePtr (by rfl) (by rfl) (by rfl) fun b arr0 fr0 hnb hF0 h0 => ?_
  have hb0 : (withBlock X b (.cells arr0 31 fr0)) b = some (.cells arr0 31 fr0) := withBlock_at X b _
  have hin' := hin.mono (withBlock_old (o := .cells arr0 31 fr0) hnb)
  have hdr : ∀ x o, X x = some o → withBlock X b (.cells arr0 31 fr0) x = some o := withBlock_old hnb
  generalize withBlock X b (.cells arr0 31 fr0) = Y at *
  have hCl := pCloneBig Y ver ad cap cs hin' hn hfb
  (refine rgN <| K.loadAll rfl rfl rfl .plain ?_; refine K.callMp [(1000001, 602)] (.sv (.agg [.val (.int .i64 ver), .slc 602 0 cs.length 3])) [scB 602 cs] (hCl) rfl rfl (by exact trivial) rfl rfl rfl rfl rfl (by exact (.box rfl rfl .nil)) .plain <| K.storeAll rfl rfl rfl rfl rfl rfl .plain ?_; refine RunK.nil <| LWP.seq ?_)
  refine LWP.le (σ' := ⟨[(3, Vp b), (2, Lp 2), (4, Lp 4)], [scB 602 cs, (2, some ⟨24, [.val (.int .i64 ver), .slc 602 0 cs.length 3], false⟩), (4, some ⟨24, [.val (.int .i64 0), .val (.slice none 0 0)], false⟩)], Y⟩) (Le.of (by exact ⟨rfl, rfl, rfl, trivial⟩) (by exact ⟨rfl, rfl, rfl, trivial⟩) (by exact rfl) (by exact rfl) (by repeat' (first | refine all_cons_true ?_ ?_ | rfl | exact bytes_inUse | exact vals_inUse | exact mid_inUse rfl))) ?_
  refine LWP.openRes (scR_root cs) fun ρ H vals el fr hR hv hO => ?_
  obtain ⟨arr, fr', cells, sp, h1, h2, h3, G, hInb⟩ := hR
  rw [hv] at h1
  simp only [Option.some.injEq, Obj.cells.injEq] at h1
  obtain ⟨rfl, rfl, rfl⟩ := h1
  have hcl : cells.length = cs.length := by rw [G.len, List.length_map]
  rw [h3, rowsZ_zip hcl]
  have hzf : (cs.zip cells).map (·.1) = cs := List.map_fst_zip (by omega)
  have hzl : (cs.zip cells).length = cs.length := by rw [List.length_zip]; omega
  have hGz : ∀ z ∈ cs.zip cells, SliceZ (cutM H ρ.1) z.2 125 3 (flV z.1.fs) := fun z hz => by
    obtain ⟨i, hi⟩ := List.mem_iff_getElem?.1 hz
    obtain ⟨g1, g2⟩ := List.getElem?_zip_eq_some.1 hi
    exact G.at_ i z.2 _ (by simp) g2 (by rw [List.getElem?_map, g1]; rfl)
  have hGy : ∀ z ∈ cs.zip cells, SliceZ (joinM Y (cutM H ρ.1)) z.2 125 3 (flV z.1.fs) := fun z hz => by
    have hs := hGz z hz
    refine hs.mono fun b hb => ?_
    have hne := hs.some_of hb
    cases hc : cutM H ρ.1 b with
    | none => exact absurd hc hne
    | some o => exact joinM_in hc
  have hOc := hO.cut ρ.1
  generalize hzs : cs.zip cells = zs at *
  have hdel := delC (joinM Y (cutM H ρ.1)) zs hGy (by rw [hzf]; exact hInb) (by omega) true 71 [.pointer (some ⟨b, 0, none⟩)] (fun c => hasB set c.id) fun Z hZ c fad fcap => only1_spec Z set hset c fad fcap (hZ _ _ (joinM_has hOc hb0)) (at_zero h0)
  have hkf : (kept (fun c => hasB set c.id) zs).map (·.1) = onlyC cs set := by
    unfold onlyC kept
    rw [← hzf, List.filter_map]; rfl
  have hkl : (kept (fun c => hasB set c.id) zs).length = (onlyC cs set).length := by rw [← hkf, List.length_map]
  refine LWP.le (σ' := ⟨[(3, Vp b), (2, Lp 2), (4, Lp 4)], [(602, some ⟨86, (rowsP zs).map CV.val ++ sp.map CV.val, false⟩), (2, some ⟨24, [.val (.int .i64 ver), .slc 602 0 cs.length 3], false⟩), (4, some ⟨24, [.val (.int .i64 0), .val (.slice none 0 0)], false⟩)], joinM Y (cutM H ρ.1)⟩) (by rw [List.map_append]; exact ⟨fun ι _ _ hr => ⟨ι, hr⟩⟩) ?_
  refine LWP.le Le.trim ?_
  rw [← hzl]
  generalize hks : kept (fun c => hasB set c.id) zs = ks at *
  (refine rgN <| kfa rfl rfl ?_; refine kl1 rfl rfl rfl <| K.makeFunc rfl rfl .plain ?_; refine K.callMp [(1000000, 602)] (.sv (.one (.slc 602 0 ks.length 3))) [(602, some ⟨86, (rowsP ks ++ zer (zs.length - ks.length)).map .val, true⟩)] (hdel) rfl rfl (by exact (And.intro ⟨_, rfl, (Box.ren_vals _ _ _ _)⟩ trivial)) (by exact (all_cons_true vals_inUse rfl)) rfl rfl rfl rfl (by exact (.box rfl (Box.ren_vals _ _ _ _) .nil)) .plain <| kfa rfl rfl ?_; refine K.storeOne rfl rfl rfl rfl rfl (nl2 rfl rfl rfl) .plain <| RunK.nil <| LWP.seq <| rgN <| K.loadAll rfl rfl rfl .plain ?_; refine K.storeAll rfl rfl rfl rfl rfl rfl .plain ?_; refine RunK.nil <| LWP.ret ?_)
  refine Leads.le (σ' := ⟨[(4, Lp 4)], [(602, some ⟨86, (rowsP ks ++ zer (zs.length - ks.length)).map .val, true⟩), (4, some ⟨24, [.val (.int .i64 ver), .slc 602 0 ks.length 3], false⟩)], joinM Y (cutM H ρ.1)⟩) (Le.of (by exact ⟨rfl, trivial⟩) (by exact ⟨rfl, rfl, trivial⟩) (by exact rfl) (by exact rfl) (by repeat' (first | refine all_cons_true ?_ ?_ | rfl | exact bytes_inUse | exact vals_inUse | exact mid_inUse rfl))) ?_
  refine Leads.spare fun sp2 => ?_
  refine Leads.closeRes (R := cmR (onlyC cs set)) hOc (fun ρ2 fr2 g1 g2 g3 => ?_) ?_
  · refine ⟨⟨_, fr2, withBlock_at _ _ _, by rw [g3]; simp⟩, ?_⟩
    rw [← hkf]
    refine comps_block (fel := 125) (withBlock_at _ _ _) (cells := ks.map (·.2)) (sp := zer (zs.length - ks.length) ++ sp2) (by unfold rowsP; simp) (by rw [List.length_map, List.length_map]) ?_ fun i c v hc hv => ?_
    · rw [hkf]
      exact fun c hc => hInb c (only_mem hc).1
    · rw [List.getElem?_map] at hc hv
      obtain ⟨z, hz, rfl⟩ := Option.map_eq_some_iff.1 hc
      rw [hz] at hv
      simp only [Option.map_some, Option.some.injEq] at hv
      subst hv
      have hzm : z ∈ zs := by
        have := List.mem_of_getElem? hz
        rw [← hks] at this
        exact (List.mem_filter.1 this).1
      have hs := hGz z hzm
      refine hs.mono fun b' hb' => ?_
      have hne := hs.some_of hb'
      unfold withBlock
      rw [if_neg (fun e => hne (by rw [e]; exact g1))]
  rw [← hkl]
  refine Leads.le (Le.drop hdr) (Leads.done ?_)
  exact ⟨[(1000001, 602)], ⟨[_], ⟨⟨_, _, rfl, rfl, rfl, .inl ⟨AggT.h, rfl⟩⟩, trivial⟩, rfl⟩, (by repeat' (first | exact trivial | refine And.intro ⟨_, rfl, ?_⟩ ?_ | refine And.intro ⟨_, rfl⟩ ?_ | rfl | exact Box.ren_bytes _ _ _ _ | exact Box.ren_vals _ _ _ _ | exact Box.ren_mid rfl)), rfl, rfl⟩
theorem ofIds {s : Sc} (h : chkE s = 0) : okIds (s.cs.map Cp.id) = true := List.all_eq_true.2 fun x hx => by
  obtain ⟨c, hc, rfl⟩ := List.mem_map.1 hx
  obtain ⟨i, hi⟩ := List.mem_iff_getElem?.1 hc
  obtain ⟨g1, g2, _⟩ := (goodC16 h).one i c hi
  exact okI_iff.2 ⟨g1, g2⟩
theorem within_has {s : Sc} (h : chkE s = 0) (set : Nat) : withinB set (ofA (s.cs.map Cp.id)) = (idsL set).all (hasC s.cs) := by
  unfold withinB
  have ho := ofIds h
  rw [show ofA (s.cs.map Cp.id) = ofN (s.cs.map Cp.id) from if_pos ho]
  rw [Bool.eq_iff_iff, List.all_eq_true, List.all_eq_true]
  refine forall_congr' fun x => forall_congr' fun hx => ?_
  have h1 : hasB (ofN (s.cs.map Cp.id)) x = true ↔ x ∈ s.cs.map Cp.id := by
    rw [← mem_ofN ho, ← any_ids, List.any_eq_true]
    exact ⟨fun ⟨y, hy, e⟩ => by rw [← beq_iff_eq.1 e]; exact hy, fun hy => ⟨x, hy, beq_iff_eq.2 rfl⟩⟩
  rw [h1]
  unfold hasC
  rw [List.any_eq_true, List.mem_map]
  exact ⟨fun ⟨c, hc, e⟩ => ⟨c, hc, beq_iff_eq.2 e⟩, fun ⟨c, hc, e⟩ => ⟨c, hc, beq_iff_eq.1 e⟩⟩
theorem ofA_lt (ids : List Int) : ofA ids < 4294967296 := by
  unfold ofA
  split
  · rename_i h
    have := ofN_lt (ids := ids) (List.all_eq_true.1 h)
    omega
  · omega
set_option maxHeartbeats 3200000 in
theorem isOf0 (s : Sc) (ad : Option Addr) (cap : Nat) (set : Nat) (hset : set < 4294967296) (hin : CompsIn X ad s.cs) (hn : s.cs.length ≤ 65536) (hc : chkE s = 0) (r : Bool) (hr : (isB set && (idsL set).all (hasC s.cs)) = r) :
    PSpec Tryz.prog X 37 [Ln .u32 (set : Nat), Sx s.ver ad s.cs.length cap] (Lb r) := by
  have hI := pIds X s.ver ad cap s.cs hin hn
  have hOf : ∀ {S : Nat → Option (Option Box)} {k : Nat} {el : TypeId} {row : Bool}, S k = some (some ⟨el, (nuV (s.cs.map Cp.id)).map .val, row⟩) → ∀ (Y : Nat → Option Obj) (us : List Value), (∀ b o, X b = some o → Y b = some o) → LentLs S Y [.sv (.one (.slc k 0 (s.cs.map Cp.id).length))] us → PSpec Tryz.prog Y 66 (us.map toLV) (.tup [Sn .u32 (ofA (s.cs.map Cp.id) : Nat), Sn .i64 (ofE (s.cs.map Cp.id))]) := fun hk => of_lent X (by rw [List.length_map]; omega) hk
  rw [show ofE (s.cs.map Cp.id) = 0 from if_pos (ofIds hc)] at hOf
  have hids : idsV s.cs = nuV (s.cs.map Cp.id) := by unfold idsV nuV; rw [List.map_map]; rfl
  have hil : (s.cs.map Cp.id).length = s.cs.length := List.length_map _
  rw [hids] at hI
  rw [hil] at hOf
  have hIs := gIs X set hset
  have hW := gWithin X set (ofA (s.cs.map Cp.id)) hset (ofA_lt _)
  rw [within_has hc] at hW
  subst hr
  generalize ofA (s.cs.map Cp.id) = oa at *
  generalize nuV (s.cs.map Cp.id) = nv at *
  refine PSpec.intro Tryz.func37 rfl (by kernel_rfl) rfl rfl ?_
  intro C
  generalize isB set = q at *
  cases q with
  | false =>
    (refine LWP.seq <| rgN <| K.box rfl rfl rfl .plain <| kas rfl <| RunK.nil <| LWP.seq <| rgN <| K.loadAll rfl rfl rfl .plain ?_; refine K.callMp [(1000001, 601)] (.sv (.one (.slc 601 0 s.cs.length))) [(601, some ⟨3, nv.map .val, false⟩)] (hI) rfl rfl (by exact trivial) rfl rfl rfl rfl rfl (by exact (.box rfl (Box.ren_vals _ _ _ _) .nil)) .plain <| K.callL [601] rfl rfl rfl (hOf rfl) .plain ?_; refine kmv rfl <| kex rfl rfl <| kex rfl rfl <| kas rfl <| kas rfl <| RunK.nil <| LWP.seq <| rgN <| kmv rfl <| keq rfl rfl (r := true) rfl <| kmv rfl <| gmv rfl rfl rfl <| gca rfl rfl hIs rfl rfl <| kpt rfl rfl ?_; refine kmv rfl <| RunK.passed rfl rfl rfl <| RunK.passed rfl rfl rfl <| RunK.passed rfl rfl rfl <| kpf rfl rfl <| kas rfl <| RunK.nil <| LWP.ret ?_)
    exact ⟨[_], ⟨rfl, trivial⟩, rfl⟩
  | true =>
    generalize (idsL set).all (hasC s.cs) = w at *
    (refine LWP.seq <| rgN <| K.box rfl rfl rfl .plain <| kas rfl <| RunK.nil <| LWP.seq <| rgN <| K.loadAll rfl rfl rfl .plain ?_; refine K.callMp [(1000001, 601)] (.sv (.one (.slc 601 0 s.cs.length))) [(601, some ⟨3, nv.map .val, false⟩)] (hI) rfl rfl (by exact trivial) rfl rfl rfl rfl rfl (by exact (.box rfl (Box.ren_vals _ _ _ _) .nil)) .plain <| K.callL [601] rfl rfl rfl (hOf rfl) .plain ?_; refine kmv rfl <| kex rfl rfl <| kex rfl rfl <| kas rfl <| kas rfl <| RunK.nil <| LWP.seq <| rgN <| kmv rfl <| keq rfl rfl (r := true) rfl <| kmv rfl <| gmv rfl rfl rfl <| gca rfl rfl hIs rfl rfl <| kpt rfl rfl ?_; refine kmv rfl <| gmv rfl rfl rfl <| gmv rfl rfl rfl <| gca rfl rfl hW rfl rfl <| kpt rfl rfl <| kas rfl <| RunK.nil <| LWP.ret ?_)
    exact ⟨[_], ⟨rfl, trivial⟩, rfl⟩
end Go.Proofs.YtbpdbclndfmcgaaGreatDoor
end
section
namespace Go.Proofs.YtbpdbclndfmcgaaGreatDoor
open Go Go.Lg Go.Lg.Fld Go.Lg.Sg Go.Lg.Col
set_option maxRecDepth 100000
theorem names16 {cs : List Cp} (hs : cs.length ≤ 30 ∧ ∀ c ∈ cs, c.fs.length ≤ 12) (hm : NamesIn cs) : NamesC cs := fun c hc => ⟨by have := hs.2 c hc; omega, (hm c hc).1, (hm c hc).2⟩
theorem good_split {s : Sc} {set : Nat} {most : Int} : goodT s set most = (decide (chkE s = 0) && ((isB set && (idsL set).all (hasC s.cs)) && (decide (1 ≤ most) && decide (most ≤ 256)))) := by
  unfold goodT
  cases decide (chkE s = 0) <;> cases isB set <;> cases decide (1 ≤ most) <;> cases decide (most ≤ 256) <;> cases (idsL set).all (hasC s.cs) <;> rfl
variable (X : Nat → Option Obj)
set_option maxHeartbeats 3200000 in
theorem tNew_no (s : Sc) (set : Nat) (most : Int) (ad : Option Addr) (cap : Nat) (hin : CompsIn X ad s.cs) (hm : NamesIn s.cs) (hs : s.cs.length ≤ 30 ∧ ∀ c ∈ s.cs, c.fs.length ≤ 12) (hset : set < 4294967296) (h : goodT s set most = false) : PSpec Tryz.prog X 8 [Sx s.ver ad s.cs.length cap, Ln .u32 (set : Nat), Ln .i64 most] LnilT := by
  have hC := pCheckBig X s ad cap hin (by omega) (names16 hs hm) _ rfl
  have hI := fun hc => isOf0 X s ad cap set hset hin (by omega) hc _ rfl
  rw [good_split] at h
  refine PSpec.intro Tryz.func8 rfl (by kernel_rfl) rfl rfl ?_
  intro C
  by_cases hc : chkE s = 0
  case neg =>
    generalize chkE s = e at *
    (refine LWP.seq <| rgN <| K.box rfl rfl rfl .plain <| kas rfl <| RunK.nil <| LWP.seq <| LWP.seq <| rgN <| K.loadAll rfl rfl rfl .plain ?_; refine kca rfl rfl hC <| kne rfl rfl (r := true) (bne_iff_ne.2 hc) <| kmv rfl <| RunK.passed rfl rfl rfl <| RunK.passed rfl rfl rfl <| RunK.passed rfl rfl rfl <| RunK.passed rfl rfl rfl <| kpt rfl rfl <| kmv rfl <| RunK.passed rfl rfl rfl <| RunK.passed rfl rfl rfl <| kpt rfl rfl <| kmv rfl <| RunK.passed rfl rfl rfl ?_; refine RunK.passed rfl rfl rfl <| kpt rfl rfl <| RunK.nil <| LWP.condT rfl ?_; refine LWP.seq <| rgN <| kas rfl <| RunK.nil <| LWP.ret ?_)
    exact ⟨[_], ⟨rfl, trivial⟩, rfl⟩
  have hI := hI hc
  rw [decide_eq_true hc, Bool.true_and] at h
  rw [hc] at hC
  generalize (isB set && (idsL set).all (hasC s.cs)) = q at *
  cases q with
  | false =>
    (refine LWP.seq <| rgN <| K.box rfl rfl rfl .plain <| kas rfl <| RunK.nil <| LWP.seq <| LWP.seq <| rgN <| K.loadAll rfl rfl rfl .plain ?_; refine kca rfl rfl hC <| kne rfl rfl (r := false) rfl <| kmv rfl <| gmv rfl rfl rfl <| K.loadAll rfl rfl rfl (.taken rfl rfl) ?_; refine gca rfl rfl hI rfl rfl <| K.not rfl rfl (.taken rfl rfl) ?_; refine kpf rfl rfl <| kmv rfl <| RunK.passed rfl rfl rfl <| RunK.passed rfl rfl rfl <| kpt rfl rfl <| kmv rfl <| RunK.passed rfl rfl rfl <| RunK.passed rfl rfl rfl <| kpt rfl rfl <| RunK.nil <| LWP.condT rfl ?_; refine LWP.seq <| rgN <| kas rfl <| RunK.nil <| LWP.ret ?_)
    exact ⟨[_], ⟨rfl, trivial⟩, rfl⟩
  | true =>
    by_cases h1 : most < 1
    · (refine LWP.seq <| rgN <| K.box rfl rfl rfl .plain <| kas rfl <| RunK.nil <| LWP.seq <| LWP.seq <| rgN <| K.loadAll rfl rfl rfl .plain ?_; refine kca rfl rfl hC <| kne rfl rfl (r := false) rfl <| kmv rfl <| gmv rfl rfl rfl <| K.loadAll rfl rfl rfl (.taken rfl rfl) ?_; refine gca rfl rfl hI rfl rfl <| K.not rfl rfl (.taken rfl rfl) ?_; refine kpf rfl rfl <| kmv rfl <| gmv rfl rfl rfl <| K.lss rfl rfl (decide_eq_true h1) (.taken rfl rfl) ?_; refine kpf rfl rfl <| kmv rfl <| RunK.passed rfl rfl rfl <| RunK.passed rfl rfl rfl <| kpt rfl rfl <| RunK.nil <| LWP.condT rfl ?_; refine LWP.seq <| rgN <| kas rfl <| RunK.nil <| LWP.ret ?_)
      exact ⟨[_], ⟨rfl, trivial⟩, rfl⟩
    · have h2 : 256 < most := by
        rw [Bool.true_and, Bool.and_eq_false_iff, decide_eq_false_iff_not, decide_eq_false_iff_not] at h
        omega
      (refine LWP.seq <| rgN <| K.box rfl rfl rfl .plain <| kas rfl <| RunK.nil <| LWP.seq <| LWP.seq <| rgN <| K.loadAll rfl rfl rfl .plain ?_; refine kca rfl rfl hC <| kne rfl rfl (r := false) rfl <| kmv rfl <| gmv rfl rfl rfl <| K.loadAll rfl rfl rfl (.taken rfl rfl) ?_; refine gca rfl rfl hI rfl rfl <| K.not rfl rfl (.taken rfl rfl) ?_; refine kpf rfl rfl <| kmv rfl <| gmv rfl rfl rfl <| K.lss rfl rfl (decide_eq_false h1) (.taken rfl rfl) ?_; refine kpf rfl rfl <| kmv rfl <| gmv rfl rfl rfl <| K.gtr rfl rfl (decide_eq_true h2) (.taken rfl rfl) ?_; refine kpf rfl rfl <| RunK.nil <| LWP.condT rfl ?_; refine LWP.seq <| rgN <| kas rfl <| RunK.nil <| LWP.ret ?_)
      exact ⟨[_], ⟨rfl, trivial⟩, rfl⟩
def ArrAt (H : Nat → Option Obj) (v : Value) (qs : List Nat) : Prop := (v = nilSlc ∧ qs = []) ∨ ∃ db, LeadsTo H db v 97 1 (pvs qs)
theorem ArrAt.ptrs {H : Nat → Option Obj} {v : Value} {qs : List Nat} (h : ArrAt H v qs) : PtrsIn H v qs := by
  rcases h with ⟨rfl, rfl⟩ | ⟨db, h⟩
  · exact ⟨none, 0, rfl, fun i b hb => by simp at hb⟩
  · exact ptrs_leads h
set_option maxHeartbeats 12800000 in
theorem tNew (s : Sc) (set most : Nat) (ad : Option Addr) (cap : Nat) (hin : CompsIn X ad s.cs) (hm : NamesIn s.cs) (hs : s.cs.length ≤ 30 ∧ ∀ c ∈ s.cs, c.fs.length ≤ 12) (hset : set < 4294967296) (h : goodT s set most = true) : MSpec Tryz.prog X 8 [Sx s.ver ad s.cs.length cap, Ln .u32 (set : Nat), Ln .i64 (most : Nat)] [] (Lp 1000001) [tB 1000001 ⟨s, set, most, 0, []⟩] := by
  have hk : TbOk ⟨s, set, most, 0, []⟩ := TbOk.new hset h
  have h24 := t_len24 hk
  have hC := pCheckBig X s ad cap hin (by omega) (names16 hs hm) _ rfl
  rw [good_split] at h
  obtain ⟨hc, h⟩ := Bool.and_eq_true_iff.1 h
  obtain ⟨hq, h⟩ := Bool.and_eq_true_iff.1 h
  obtain ⟨hm1, hm2⟩ := Bool.and_eq_true_iff.1 h
  replace hc := of_decide_eq_true hc
  replace hm1 := of_decide_eq_true hm1
  replace hm2 := of_decide_eq_true hm2
  have hI := isOf0 X s ad cap set hset hin (by omega) hc _ hq
  rw [hc] at hC
  have hOnly := only0 X s.ver ad cap s.cs set hset hin (by omega) fun c hc => by have := hs.2 c hc; omega
  refine MSpec.intro Tryz.func8 rfl (by kernel_rfl) rfl rfl (by exact (by repeat' (first | refine all_cons_true ?_ ?_ | rfl | exact bytes_inUse | exact vals_inUse | exact mid_inUse rfl))) rfl rfl ?_
  intro C
  refine LWP.ends ?_
  have htc : onlyC (⟨s, set, most, 0, []⟩ : Tb).sc.cs (⟨s, set, most, 0, []⟩ : Tb).set = onlyC s.cs set := rfl
  generalize hnc : (onlyC s.cs set).length = nc at *
  (refine LWP.seq <| rgN <| K.box rfl rfl rfl .plain <| kas rfl <| RunK.nil <| LWP.seq <| LWP.seq <| rgN <| K.loadAll rfl rfl rfl .plain ?_; refine kca rfl rfl hC <| kne rfl rfl (r := false) rfl <| kmv rfl <| gmv rfl rfl rfl <| K.loadAll rfl rfl rfl (.taken rfl rfl) ?_; refine gca rfl rfl hI rfl rfl <| K.not rfl rfl (.taken rfl rfl) ?_; refine kpf rfl rfl <| kmv rfl <| gmv rfl rfl rfl <| K.lss rfl rfl (decide_eq_false (by omega)) (.taken rfl rfl) ?_; refine kpf rfl rfl <| kmv rfl <| gmv rfl rfl rfl <| K.gtr rfl rfl (decide_eq_false (by omega)) (.taken rfl rfl) ?_; refine kpf rfl rfl <| RunK.nil <| LWP.condF rfl ?_; refine LWP.skip ?_; refine LWP.seq <| rgN <| kmv rfl <| kmv rfl <| K.loadAll rfl rfl rfl .plain ?_; refine kmv rfl <| K.callMp [(1000001, 602)] (.sv (.agg [.val (.int .i64 s.ver), .slc 602 0 nc 3])) [cmB 602 (onlyC s.cs set)] (hOnly) rfl rfl (by exact trivial) rfl rfl rfl rfl rfl (by exact (.box rfl rfl .nil)) .plain <| K.build rfl rfl (by exact rfl) (by exact nl7 rfl rfl rfl rfl rfl rfl rfl rfl) .plain ?_; refine K.box rfl rfl rfl .plain <| kas rfl <| RunK.nil <| LWP.seq <| LWP.seq ?_)
  refine LWP.le (σ' := ⟨[(7, Lp 35), (2, Ln .i64 (most : Nat))], [(35, some ⟨92, [.val (.int .u32 (set : Nat)), .val (.int .i64 (most : Nat)), .val (.int .i64 (0 : Nat)), .val nilSlc, .val (.int .i64 s.ver)] ++ .slc 602 0 nc 3 :: [.val nilSlc], false⟩), cmB 602 (onlyC s.cs set)], X⟩) (Le.of (by exact ⟨rfl, rfl, trivial⟩) (by exact ⟨rfl, rfl, trivial⟩) (by exact rfl) (by exact rfl) (by repeat' (first | refine all_cons_true ?_ ?_ | rfl | exact bytes_inUse | exact vals_inUse | exact mid_inUse rfl))) ?_
  refine LWP.fixCell rfl rfl rfl rfl rfl rfl fun ρ H2 cc hcm hO2 hcc _ => ?_
  obtain ⟨cb, cm⟩ := ρ
  have hin2 : CompsIn H2 (some ⟨cb, 0, none⟩) (onlyC s.cs set) := hcm.2
  (refine rgN <| kmv rfl <| K.nilCheck rfl .plain <| kfa rfl rfl ?_; refine kfa rfl rfl ?_; refine kl1 rfl rfl rfl <| K.lenX rfl SliceT.h rfl .plain ?_; refine kmv rfl <| RunK.nil <| LWP.block ?_)
  refine LWP.loopL (fun m σ => ∃ (j : Nat) (qs : List Nat) (vP : Value) (Hn HA : Nat → Option Obj), j ≤ nc ∧ m = nc - j ∧ OwnedM C (joinM X H2) Hn ∧ OwnedM C (joinM (joinM X H2) Hn) HA ∧ Refs Hn qs ((colsT ⟨s, set, most, 0, []⟩).take j) ∧ ArrAt HA vP qs ∧ σ = ⟨[(7, Lp 35), (2, Ln .i64 (most : Nat)), (40, .sv (.one (vS (some ⟨cb, 0, none⟩) nc cc))), (41, Ln .i64 (nc : Nat)), (42, Ln .i64 (j : Nat))], [tS 35 ⟨s, set, most, 0, []⟩ (.val nilSlc) (.slice (some ⟨cb, 0, none⟩) nc cc) vP], joinM (joinM (joinM X H2) Hn) HA⟩) nc
    (Leads.le (σ' := ⟨[(7, Lp 35), (2, Ln .i64 (most : Nat)), (40, .sv (.one (vS (some ⟨cb, 0, none⟩) nc cc))), (41, Ln .i64 (nc : Nat)), (42, Ln .i64 (0 : Nat))], [tS 35 ⟨s, set, most, 0, []⟩ (.val nilSlc) (.slice (some ⟨cb, 0, none⟩) nc cc) nilSlc], joinM X H2⟩) (Le.of (by exact ⟨rfl, rfl, rfl, rfl, rfl, trivial⟩) (by exact ⟨rfl, trivial⟩) (by exact rfl) (by exact rfl) (by repeat' (first | refine all_cons_true ?_ ?_ | rfl | exact bytes_inUse | exact vals_inUse | exact mid_inUse rfl))) (Leads.done ⟨0, [], nilSlc, fun _ => none, fun _ => none, by omega, by omega, OwnedM.nil _ _, OwnedM.nil _ _, Refs.nil _, .inl ⟨rfl, rfl⟩, by rw [joinM_nil, joinM_nil]⟩)) ?_
  rintro m σ ⟨j, qs, vP, Hn, HA, hj, rfl, hOn, hOA, hR, hA, rfl⟩
  have hcl : (colsT ⟨s, set, most, 0, []⟩).length = nc := by rw [← hnc]; exact colsG_len _ _ _
  have hqs : qs.length = j := by rw [hR.len, List.length_take]; omega
  by_cases hlt : j < nc
  case neg =>
    have e : j = nc := by omega
    subst e
    rw [List.take_of_length_le (by omega)] at hR
    (refine LWP.seq <| rgN <| klt rfl rfl (decide_eq_false (by omega)) <| RunK.nil <| LWP.seq <| LWP.condF rfl ?_; refine LWP.exit <| LWP.seq <| rgN <| kmv rfl <| kas rfl <| RunK.nil <| LWP.ret ?_)
    obtain ⟨p1, p2, p3⟩ := OwnedM.swap hOn hOA
    refine Leads.le (σ' := ⟨[(6, Lp 35)], [tS 35 ⟨s, set, most, 0, []⟩ (.val nilSlc) (.slice (some ⟨cb, 0, none⟩) j cc) vP], tH X (joinM H2 HA) (fun _ => none) Hn⟩) (by
      unfold tH
      rw [joinM_nil, ← joinM_join, ← p3]
      exact Le.of (by exact ⟨rfl, trivial⟩) (by exact ⟨rfl, trivial⟩) (by exact rfl) (by exact rfl) (by repeat' (first | refine all_cons_true ?_ ?_ | rfl | exact bytes_inUse | exact vals_inUse | exact mid_inUse rfl))) ?_
    refine tab_shut (t := ⟨s, set, most, 0, []⟩) (hO2.join p1) (OwnedM.nil _ _) (by rw [joinM_nil, ← joinM_join]; exact p2) ⟨⟨cb, cc, by rw [← hnc], hin2.mono (Go.Lg.joinM_keeps p1)⟩, hA.ptrs.mono fun b o h => joinM_in h, hR, .inl ⟨rfl, rfl⟩, fun r hr => by cases hr⟩ (Leads.done ?_)
    exact ⟨[(1000001, 35)], ⟨[_], ⟨rfl, trivial⟩, rfl⟩, (by repeat' (first | exact trivial | refine And.intro ⟨_, rfl, ?_⟩ ?_ | refine And.intro ⟨_, rfl⟩ ?_ | rfl | exact Box.ren_bytes _ _ _ _ | exact Box.ren_vals _ _ _ _ | exact Box.ren_mid rfl)), rfl, rfl⟩
  obtain ⟨c, hcj⟩ : ∃ c, (onlyC s.cs set)[j]? = some c := ⟨_, List.getElem?_eq_getElem (by omega)⟩
  have hsz := t_size hk (k := j) (c := c) hcj
  have hlay := t_lay hk (k := j) (c := c) hcj
  have hM : ∀ b o, H2 b = some o → joinM (joinM (joinM X H2) Hn) HA b = some o := fun b o hb => joinM_has hOA (joinM_has hOn (joinM_in hb))
  obtain ⟨cblk, coff, carr, cel, cfr, fad, fcap, hqq, hcX, hcsz, hccs, _, _, _, hF⟩ := (hin2.mono hM).get hcj
  simp only [Option.some.injEq, Addr.mk.injEq] at hqq
  obtain ⟨rfl, rfl, _⟩ := hqq
  have hio : 0 + Int.toNat (j : Int) * 3 = 0 + j * 3 := by simp
  have hOf := Of_ok (joinM (joinM (joinM X H2) Hn) HA) fad fcap c.fs hF (by omega) hlay
  have hNw := cNew_ok (joinM (joinM (joinM X H2) Hn) HA) (rowSize c.fs) most hsz.2.1 (by omega) (by omega)
  have hadd : IntKind.i64.wrap (((j : Nat) : Int) + 1) = ((j + 1 : Nat) : Int) := by rw [wrap_i64 (by omega)]; omega
  have hroot := colR_root (rowSize c.fs) most []
  have htk : (colsT ⟨s, set, most, 0, []⟩).take (j + 1) = (colsT ⟨s, set, most, 0, []⟩).take j ++ [colR (rowSize c.fs) most []] := take_snoc (colsG_at (f := colL []) (most := most) hcj)
  have hfin : ∀ (HA0 : Nat → Option Obj) (Mid : St → Prop), OwnedM C (joinM (joinM X H2) Hn) HA0 → (∀ (qs' : List Nat) (vP' : Value) (Hn' HA' : Nat → Option Obj), OwnedM C (joinM X H2) Hn' → OwnedM C (joinM (joinM X H2) Hn') HA' → Refs Hn' qs' ((colsT ⟨s, set, most, 0, []⟩).take (j + 1)) → ArrAt HA' vP' qs' →
        Leads Tryz.f8.ntmps C Mid ⟨[(7, Lp 35), (2, Ln .i64 (most : Nat)), (40, .sv (.one (vS (some ⟨cb, 0, none⟩) nc cc))), (41, Ln .i64 (nc : Nat)), (42, Ln .i64 (j + 1 : Nat))], [tS 35 ⟨s, set, most, 0, []⟩ (.val nilSlc) (.slice (some ⟨cb, 0, none⟩) nc cc) vP'], joinM (joinM (joinM X H2) Hn') HA'⟩) →
      Leads Tryz.f8.ntmps C Mid ⟨[(7, Lp 35), (2, Ln .i64 (most : Nat)), (40, .sv (.one (vS (some ⟨cb, 0, none⟩) nc cc))), (41, Ln .i64 (nc : Nat)), (42, Ln .i64 (j + 1 : Nat))], [(603, some ⟨97, (pvs qs).map .val ++ .ptr 601 0 :: ([] : List Value).map .val, true⟩), cB 601 (rowSize c.fs) most [], tO 35 ⟨s, set, most, 0, []⟩ (.val nilSlc) (.val (.slice (some ⟨cb, 0, none⟩) nc cc)) (.slc 603 0 (j + 1) 1)], joinM (joinM (joinM X H2) Hn) HA0⟩ := fun HA0 Mid hO0 hmid => by
    refine Leads.fixRsc (k := 601) (s := [(7, Lp 35), (2, Ln .i64 (most : Nat)), (40, .sv (.one (vS (some ⟨cb, 0, none⟩) nc cc))), (41, Ln .i64 (nc : Nat)), (42, Ln .i64 (j + 1 : Nat))]) (bx := [tO 35 ⟨s, set, most, 0, []⟩ (.val nilSlc) (.val (.slice (some ⟨cb, 0, none⟩) nc cc)) (.slc 603 0 (j + 1) 1)]) (s0 := []) (b0 := [(603, some ⟨97, (pvs qs).map .val ++ .ptr 601 0 :: ([] : List Value).map .val, true⟩)]) (by rfl) (by rfl) (by rfl) (by rfl) (by refine all_cons_true ?_ rfl; exact fixIn_mid _ _) fun ρ Hc2 k1 k2 => ?_
    obtain ⟨bn, mn⟩ := ρ
    obtain ⟨q1, q2, q3⟩ := OwnedM.swap hO0 k2
    have hpush := hR.push k1 (hroot _ _ k1) fun x hx => own_far q1 hx
    have hcells : ((pvs qs).map CV.val ++ .ptr 601 0 :: ([] : List Value).map CV.val).map (CV.fix 601 bn) = (pvs (qs ++ [bn])).map CV.val := by
      rw [fix_mid]
      unfold pvs
      simp
    rw [q3]
    refine Leads.le (σ' := ⟨[(7, Lp 35), (2, Ln .i64 (most : Nat)), (40, .sv (.one (vS (some ⟨cb, 0, none⟩) nc cc))), (41, Ln .i64 (nc : Nat)), (42, Ln .i64 (j + 1 : Nat))], [(35, some ⟨92, [.val (.int .u32 (set : Nat)), .val (.int .i64 (most : Nat)), .val (.int .i64 (0 : Nat)), .val nilSlc, .val (.int .i64 s.ver), .val (.slice (some ⟨cb, 0, none⟩) nc cc)] ++ .slc 603 0 (j + 1) 1 :: [], false⟩), (603, some ⟨97, (pvs (qs ++ [bn])).map .val, true⟩)], joinM (joinM (joinM (joinM X H2) Hn) Hc2) HA0⟩) (by
      show Le _ _ (⟨[] ++ _, [(603, some ⟨_, ((pvs qs).map CV.val ++ .ptr 601 0 :: ([] : List Value).map CV.val).map (CV.fix 601 bn), true⟩)] ++ _, _⟩ : St) _
      rw [hcells]
      exact Le.of (by exact ⟨rfl, rfl, rfl, rfl, rfl, trivial⟩) (by exact ⟨rfl, rfl, trivial⟩) (by exact rfl) (by exact rfl) (by repeat' (first | refine all_cons_true ?_ ?_ | rfl | exact bytes_inUse | exact vals_inUse | exact mid_inUse rfl))) ?_
    refine Leads.closeCell q2 (by rw [pvs_len, List.length_append]; simp only [List.length_singleton]; omega) rfl rfl rfl rfl rfl rfl fun ba oa va _ _ hOa hva => ?_
    rw [joinM_join (joinM X H2) Hn Hc2]
    rw [joinM_join (joinM X H2) Hn Hc2] at hOa
    exact hmid (qs ++ [bn]) va (joinM Hn Hc2) _ (hOn.join q1) hOa (by rw [htk]; exact hpush) (.inr ⟨ba, hva⟩)
  have hdone : ∀ (qs' : List Nat) (vP' : Value) (Hn' HA' : Nat → Option Obj), OwnedM C (joinM X H2) Hn' → OwnedM C (joinM (joinM X H2) Hn') HA' → Refs Hn' qs' ((colsT ⟨s, set, most, 0, []⟩).take (j + 1)) → ArrAt HA' vP' qs' → _ := fun qs' vP' Hn' HA' y1 y2 y3 y4 => Leads.done (n := Tryz.f8.ntmps) (C := C) (Mid := fun σ' => ∃ m', m' < nc - j ∧ ∃ (j : Nat) (qs : List Nat) (vP : Value) (Hn HA : Nat → Option Obj), j ≤ nc ∧ m' = nc - j ∧ OwnedM C (joinM X H2) Hn ∧ OwnedM C (joinM (joinM X H2) Hn) HA ∧ Refs Hn qs ((colsT ⟨s, set, most, 0, []⟩).take j) ∧ ArrAt HA vP qs ∧ σ' = ⟨[(7, Lp 35), (2, Ln .i64 (most : Nat)), (40, .sv (.one (vS (some ⟨cb, 0, none⟩) nc cc))), (41, Ln .i64 (nc : Nat)), (42, Ln .i64 (j : Nat))], [tS 35 ⟨s, set, most, 0, []⟩ (.val nilSlc) (.slice (some ⟨cb, 0, none⟩) nc cc) vP], joinM (joinM (joinM X H2) Hn) HA⟩) ⟨nc - (j + 1), by omega, j + 1, qs', vP', Hn', HA', by omega, rfl, y1, y2, y3, y4, rfl⟩
  (refine LWP.seq <| rgN <| klt rfl rfl (decide_eq_true (by omega)) <| RunK.nil <| LWP.seq <| LWP.condT rfl ?_; refine LWP.skip ?_; refine LWP.seq <| LWP.block <| LWP.seq <| rgN <| K.indexX rfl rfl SliceT.h (by omega) hio .plain <| K.loadXagg rfl hcX (by kernel_rfl) hcsz hccs .plain <| K.alloc rfl .plain ?_; refine K.storeAll rfl rfl rfl rfl rfl rfl .plain ?_; refine RunK.nil <| LWP.seq <| rgN <| kfa rfl rfl ?_; refine kl1 rfl rfl rfl <| K.callMp [(1000001, 503)] (.tup [planV (rowSize c.fs : Nat) (.slc 503 0 c.fs.length 1), Sn .i64 0]) [(503, some ⟨3, (ntV (startsAt 0 c.fs)).map .val, false⟩)] (hOf) rfl rfl (by exact trivial) rfl rfl rfl rfl rfl (by exact (.box rfl (Box.ren_vals _ _ _ _) .nil)) .plain <| kmv rfl <| kex rfl rfl <| kex rfl rfl <| K.alloc rfl .plain ?_; refine K.storeAll rfl rfl rfl rfl rfl rfl .plain ?_; refine kas rfl <| RunK.nil ?_)
  refine LWP.le (σ' := ⟨[(10, Lp 10), (7, Lp 35), (2, Ln .i64 (most : Nat)), (40, .sv (.one (vS (some ⟨cb, 0, none⟩) nc cc))), (41, Ln .i64 (nc : Nat)), (42, Ln .i64 (j : Nat))], [(10, some ⟨94, [.val (.int .i64 (rowSize c.fs : Nat)), .slc 503 0 c.fs.length 1], false⟩), (503, some ⟨3, (ntV (startsAt 0 c.fs)).map .val, false⟩), tS 35 ⟨s, set, most, 0, []⟩ (.val nilSlc) (.slice (some ⟨cb, 0, none⟩) nc cc) vP], joinM (joinM (joinM X H2) Hn) HA⟩) (Le.of (by exact ⟨rfl, rfl, rfl, rfl, rfl, rfl, trivial⟩) (by exact ⟨rfl, rfl, rfl, trivial⟩) (by exact rfl) (by exact rfl) (by repeat' (first | refine all_cons_true ?_ ?_ | rfl | exact bytes_inUse | exact vals_inUse | exact mid_inUse rfl))) ?_
  rcases hA with ⟨rfl, rfl⟩ | ⟨db, hd⟩
  · have hj0 : j = 0 := by rw [← hqs]; rfl
    unfold nilSlc
    (refine rgD mixed <| kmv rfl <| kmv rfl <| K.nilCheck rfl .plain <| kfa rfl rfl ?_; refine kl1 rfl rfl rfl <| kfa rfl rfl ?_; refine kl1 rfl rfl rfl <| kmv rfl <| K.callMp [(1000001, 601)] (Lp 601) [cB 601 (rowSize c.fs) most []] (hNw) rfl rfl (by exact trivial) rfl rfl rfl rfl rfl (by exact (.box rfl rfl .nil)) .plain <| K.buildSlc (zs := [.pointer none]) (sz := 1) (e := 97) (cs' := [.ptr 601 0]) (by kernel_rfl) rfl rfl rfl rfl rfl rfl .plain <| K.appendNil (by_ := 8) (e := 97) (e2 := 97) (l2 := [.ptr 601 0]) rfl rfl rfl (Nat.le_refl _) rfl rfl (by decide) (by kernel_rfl) (by kernel_rfl) (by omega) (by omega) rfl .plain ?_; refine K.nilCheck rfl .plain <| kfa rfl rfl ?_; refine K.storeOne rfl rfl rfl rfl rfl (nl7 rfl rfl rfl rfl rfl rfl rfl rfl) .plain <| RunK.nil <| rgA ?_; refine rgN <| kad rfl rfl hadd <| kmv rfl <| RunK.nil ?_)
    refine Leads.le (σ' := ⟨[(7, Lp 35), (2, Ln .i64 (most : Nat)), (40, .sv (.one (vS (some ⟨cb, 0, none⟩) nc cc))), (41, Ln .i64 (nc : Nat)), (42, Ln .i64 (j + 1 : Nat))], [(603, some ⟨97, (pvs []).map .val ++ .ptr 601 0 :: ([] : List Value).map .val, true⟩), cB 601 (rowSize c.fs) most [], tO 35 ⟨s, set, most, 0, []⟩ (.val nilSlc) (.val (.slice (some ⟨cb, 0, none⟩) nc cc)) (.slc 603 0 (j + 1) 1)], joinM (joinM (joinM X H2) Hn) HA⟩) (by rw [hj0]; exact Le.ofR [(603, 62)] (by exact ⟨rfl, rfl, rfl, rfl, rfl, trivial⟩) (by repeat' (first | exact trivial | refine And.intro ⟨_, rfl, ?_⟩ ?_ | refine And.intro ⟨_, rfl⟩ ?_ | rfl | exact Box.ren_bytes _ _ _ _ | exact Box.ren_vals _ _ _ _ | exact Box.ren_mid rfl)) (by exact rfl) (by exact rfl) (by repeat' (first | refine all_cons_true ?_ ?_ | rfl | exact bytes_inUse | exact vals_inUse | exact mid_inUse rfl)) (by exact rfl) (by exact rfl)) ?_
    exact hfin _ _ hOA hdone
  · have hel : (pvs qs).length = j * 1 := by rw [pvs_len]; omega
    have hcl1 : ((pvs qs).map CV.val).length = j * 1 := by rw [List.length_map]; exact hel
    refine LWP.le (σ' := ⟨[(10, Lp 10), (7, Lp 35), (2, Ln .i64 (most : Nat)), (40, .sv (.one (vS (some ⟨cb, 0, none⟩) nc cc))), (41, Ln .i64 (nc : Nat)), (42, Ln .i64 (j : Nat))], [tS 35 ⟨s, set, most, 0, []⟩ (.val nilSlc) (.slice (some ⟨cb, 0, none⟩) nc cc) vP, (10, some ⟨94, [.val (.int .i64 (rowSize c.fs : Nat)), .slc 503 0 c.fs.length 1], false⟩), (503, some ⟨3, (ntV (startsAt 0 c.fs)).map .val, false⟩)], joinM (joinM (joinM X H2) Hn) HA⟩) (Le.of (by exact ⟨rfl, rfl, rfl, rfl, rfl, rfl, trivial⟩) (by exact ⟨rfl, rfl, rfl, trivial⟩) (by exact rfl) (by exact rfl) (by repeat' (first | refine all_cons_true ?_ ?_ | rfl | exact bytes_inUse | exact vals_inUse | exact mid_inUse rfl))) ?_
    refine LWP.openCell (A := [.val (.int .u32 (set : Nat)), .val (.int .i64 (most : Nat)), .val (.int .i64 (0 : Nat)), .val nilSlc, .val (.int .i64 s.ver), .val (.slice (some ⟨cb, 0, none⟩) nc cc)]) (B := []) (k := 602) (sz := 1) (len := j) hOA hd hel (by omega) rfl (by repeat' (first | refine all_cons_true ?_ ?_ | rfl | exact vals_inUse)) rfl rfl rfl ?_
    have hNw2 := cNew_ok (joinM (joinM (joinM X H2) Hn) (cutM HA db)) (rowSize c.fs) most hsz.2.1 (by omega) (by omega)
    (refine rgD mixed <| kmv rfl <| kmv rfl <| K.nilCheck rfl .plain <| kfa rfl rfl ?_; refine kl1 rfl rfl rfl <| kfa rfl rfl ?_; refine kl1 rfl rfl rfl <| kmv rfl <| K.callMp [(1000001, 601)] (Lp 601) [cB 601 (rowSize c.fs) most []] (hNw2) rfl rfl (by exact trivial) rfl rfl rfl rfl rfl (by exact (.box rfl rfl .nil)) .plain <| K.buildSlc (zs := [.pointer none]) (sz := 1) (e := 97) (cs' := [.ptr 601 0]) (by kernel_rfl) rfl rfl rfl rfl rfl rfl .plain <| K.appendSlc (by_ := 8) (e2 := 97) (l2 := [.ptr 601 0]) (nl := j + 1) (nc := (pvs qs).map .val ++ [.ptr 601 0]) rfl rfl hcl1 rfl rfl (Nat.le_refl _) rfl rfl (by kernel_rfl) (by kernel_rfl) (by omega) (by omega) rfl rfl rfl .plain <| K.nilCheck rfl .plain <| kfa rfl rfl ?_; refine K.storeOne rfl rfl rfl rfl rfl (nl7 rfl rfl rfl rfl rfl rfl rfl rfl) .plain <| RunK.nil <| rgA ?_; refine rgN <| kad rfl rfl hadd <| kmv rfl <| RunK.nil ?_)
    refine Leads.le (σ' := ⟨[(7, Lp 35), (2, Ln .i64 (most : Nat)), (40, .sv (.one (vS (some ⟨cb, 0, none⟩) nc cc))), (41, Ln .i64 (nc : Nat)), (42, Ln .i64 (j + 1 : Nat))], [(603, some ⟨97, (pvs qs).map .val ++ .ptr 601 0 :: ([] : List Value).map .val, true⟩), cB 601 (rowSize c.fs) most [], tO 35 ⟨s, set, most, 0, []⟩ (.val nilSlc) (.val (.slice (some ⟨cb, 0, none⟩) nc cc)) (.slc 603 0 (j + 1) 1)], joinM (joinM (joinM X H2) Hn) (cutM HA db)⟩) (Le.ofR [(603, 62)] (by exact ⟨rfl, rfl, rfl, rfl, rfl, trivial⟩) (by repeat' (first | exact trivial | refine And.intro ⟨_, rfl, ?_⟩ ?_ | refine And.intro ⟨_, rfl⟩ ?_ | rfl | exact Box.ren_bytes _ _ _ _ | exact Box.ren_vals _ _ _ _ | exact Box.ren_mid rfl)) (by exact rfl) (by exact rfl) (by repeat' (first | refine all_cons_true ?_ ?_ | rfl | exact bytes_inUse | exact vals_inUse | exact mid_inUse rfl)) (by exact rfl) (by exact rfl)) ?_
    exact hfin _ _ (hOA.cut db) hdone
end Go.Proofs.YtbpdbclndfmcgaaGreatDoor
end
section
namespace Go.Proofs.YtbpdbclndfmcgaaGreatDoor
open Go Go.Lg Go.Lg.Fld Go.Lg.Sg
set_option maxRecDepth 100000
section
variable {P : Program} {n : Nat} {C : Ctx} {c : Code} {Q : Exit → St → Prop} {X : Nat → Option Obj} {s : List (Nat × LV)} {bx : List (Nat × Option Box)} {k : Nat}
theorem tab_made {t : Tb} (h : ∀ m : Bool, (m = false → t.l = []) → LWP P n C c Q ⟨s, tM k m t :: bx, X⟩) : LWP P n C c Q ⟨s, tB k t :: bx, X⟩ :=
  LWP.resEx (α := { m : Bool // m = false → t.l = [] }) (fun m => tbM m.1 t) (fun _ _ ⟨m, h⟩ => ⟨⟨m, fun e => by subst e; exact tM_nil h⟩, h⟩) fun m => h m.1 m.2
theorem Le.unmade {t : Tb} {m : Bool} : Le n C ⟨s, tM k m t :: bx, X⟩ ⟨s, tB k t :: bx, X⟩ := ⟨fun ι a w hr => ⟨ι, by
  obtain ⟨_, hx⟩ := hr.resEx (α := Unit) (R2 := fun _ => tbR t) fun ρ H hh => ⟨(), _, hh⟩
  exact hx⟩⟩
end
variable (X : Nat → Option Obj)
end Go.Proofs.YtbpdbclndfmcgaaGreatDoor
end
section
namespace Go.Proofs.YtbpdbclndfmcgaaGreatDoor
open Go Go.Lg Go.Lg.Fld Go.Lg.Sg Go.Lg.Arith
set_option maxRecDepth 100000
def greatB16 (cs : List Cp) : Bool := decide (30 < cs.length) || cs.any fun c => decide (12 < c.fs.length)
variable (X : Nat → Option Obj)
set_option maxHeartbeats 3200000 in
theorem great16_spec (ver : Int) (ad : Option Addr) (cap : Nat) (cs : List Cp) (hin : CompsIn X ad cs) (r : Bool) (hr : greatB16 cs = r) : PSpec Tryz.prog X 7 [Sx ver ad cs.length cap] (Lb r) := by
  subst hr
  refine PSpec.intro Tryz.func7 rfl (by kernel_rfl) rfl rfl ?_
  intro C
  by_cases hn : 30 < cs.length
  · rw [show greatB16 cs = true by unfold greatB16; rw [decide_eq_true hn]; rfl]
    (refine LWP.seq <| rgN <| K.box rfl rfl rfl .plain <| kas rfl <| RunK.nil <| LWP.seq <| LWP.seq <| rgN <| kfa rfl rfl ?_; refine kl1 rfl rfl rfl <| K.lenX rfl SliceT.h rfl .plain ?_; refine K.gtr rfl rfl (decide_eq_true (by omega)) .plain <| RunK.nil <| LWP.condT rfl ?_; refine LWP.seq <| rgN <| kas rfl <| RunK.nil <| LWP.ret ?_)
    exact ⟨[_], ⟨rfl, trivial⟩, rfl⟩
  (refine LWP.seq <| rgN <| K.box rfl rfl rfl .plain <| kas rfl <| RunK.nil <| LWP.seq <| LWP.seq <| rgN <| kfa rfl rfl ?_; refine kl1 rfl rfl rfl <| K.lenX rfl SliceT.h rfl .plain ?_; refine K.gtr rfl rfl (decide_eq_false (by omega)) .plain <| RunK.nil <| LWP.condF rfl ?_; refine LWP.skip ?_; refine LWP.seq <| LWP.seq <| rgN <| kas rfl <| RunK.nil <| LWP.block ?_)
  refine LWP.loop (fun m σ => ∃ i : Nat, i ≤ cs.length ∧ m = cs.length - i ∧ (∀ (j : Nat) (y : Cp), j < i → cs[j]? = some y → decide (12 < y.fs.length) = false) ∧ σ = ⟨[(1, Lp 1), (3, Ln .i64 (i : Nat))], [sxB 1 ver ad cs.length cap], X⟩) cs.length
    ⟨_, Le.of (by exact ⟨rfl, rfl, trivial⟩) (by exact ⟨rfl, trivial⟩) (by exact rfl) (by exact rfl) (by repeat' (first | refine all_cons_true ?_ ?_ | rfl | exact bytes_inUse | exact vals_inUse | exact mid_inUse rfl)), 0, by omega, by omega, fun j y hj => absurd hj (by omega), rfl⟩ ?_
  rintro m σ ⟨i, hi, rfl, hpre, rfl⟩
  by_cases hlt : i < cs.length
  · obtain ⟨c, hc⟩ : ∃ c, cs[i]? = some c := ⟨_, List.getElem?_eq_getElem hlt⟩
    obtain ⟨blk, off, arr, el, fr, fad, fcap, rfl, hX, hsz, hcs, g1, g2, g3, hF⟩ := hin.get hc
    have hio : off + Int.toNat (i : Int) * 3 = off + i * 3 := by simp
    by_cases h1 : 12 < c.fs.length
    · rw [show greatB16 cs = true by unfold greatB16; rw [any_at hc (by exact decide_eq_true h1), Bool.or_true]]
      (refine LWP.seq <| LWP.seq <| rgN <| kmv rfl <| kfa rfl rfl ?_; refine kl1 rfl rfl rfl <| K.lenX rfl SliceT.h rfl .plain ?_; refine klt rfl rfl (decide_eq_true (by omega)) <| RunK.nil <| LWP.condT rfl ?_; refine LWP.skip ?_; refine LWP.seq <| LWP.block <| LWP.seq <| rgN <| kfa rfl rfl ?_; refine kl1 rfl rfl rfl <| kmv rfl <| K.indexX rfl rfl SliceT.h (by omega) hio .plain <| K.fieldAddrX rfl rfl .plain ?_; refine K.loadX rfl hX rfl g3 .plain <| K.lenX rfl SliceT.h rfl .plain ?_; refine K.gtr rfl rfl (decide_eq_true (by omega)) .plain <| RunK.nil <| LWP.condT rfl ?_; refine LWP.seq <| rgN <| kas rfl <| RunK.nil <| LWP.ret ?_)
      exact ⟨[_], ⟨rfl, trivial⟩, rfl⟩
    · (refine LWP.seq <| LWP.seq <| rgN <| kmv rfl <| kfa rfl rfl ?_; refine kl1 rfl rfl rfl <| K.lenX rfl SliceT.h rfl .plain ?_; refine klt rfl rfl (decide_eq_true (by omega)) <| RunK.nil <| LWP.condT rfl ?_; refine LWP.skip ?_; refine LWP.seq <| LWP.block <| LWP.seq <| rgN <| kfa rfl rfl ?_; refine kl1 rfl rfl rfl <| kmv rfl <| K.indexX rfl rfl SliceT.h (by omega) hio .plain <| K.fieldAddrX rfl rfl .plain ?_; refine K.loadX rfl hX rfl g3 .plain <| K.lenX rfl SliceT.h rfl .plain ?_; refine K.gtr rfl rfl (decide_eq_false (by omega)) .plain <| RunK.nil <| LWP.condF rfl ?_; refine LWP.skip ?_; refine rgN <| kmv rfl <| kad rfl rfl (wrap_i64 (by omega)) <| kas rfl <| RunK.nil ?_)
      exact ⟨_, _, by omega, Le.of (by exact ⟨rfl, rfl, trivial⟩) (by exact ⟨rfl, trivial⟩) (by exact rfl) (by exact rfl) (by repeat' (first | refine all_cons_true ?_ ?_ | rfl | exact bytes_inUse | exact vals_inUse | exact mid_inUse rfl)), i + 1, by omega, rfl, (fun j y hj hy => by
        by_cases e : j = i
        · subst e
          rw [hc] at hy
          cases hy
          exact decide_eq_false h1
        · exact hpre j y (by omega) hy), rfl⟩
  · rw [show greatB16 cs = false by unfold greatB16; rw [decide_eq_false hn, any_no fun j y hy => hpre j y (by have := (List.getElem?_eq_some_iff.1 hy).1; omega) hy]; rfl]
    (refine LWP.seq <| LWP.seq <| rgN <| kmv rfl <| kfa rfl rfl ?_; refine kl1 rfl rfl rfl <| K.lenX rfl SliceT.h rfl .plain ?_; refine klt rfl rfl (decide_eq_false (by omega)) <| RunK.nil <| LWP.condF rfl ?_; refine LWP.exit <| LWP.seq <| rgN <| kas rfl <| RunK.nil <| LWP.ret ?_)
    exact ⟨[_], ⟨rfl, trivial⟩, rfl⟩
theorem greatB16_no {cs : List Cp} (h : greatB16 cs = false) : cs.length ≤ 30 ∧ ∀ c ∈ cs, c.fs.length ≤ 12 := by
  unfold greatB16 at h
  rw [Bool.or_eq_false_iff, decide_eq_false_iff_not, List.any_eq_false] at h
  exact ⟨by omega, fun c hc => by have := h.2 c hc; simpa using this⟩
end Go.Proofs.YtbpdbclndfmcgaaGreatDoor
end
section
namespace Go.Proofs.YtbpdbclndfmcgaaGreatDoor
open Go Go.Lg Go.Lg.Fld Go.Lg.Sg
set_option maxRecDepth 100000
structure EnIn (X : Nat → Option Obj) (ad : Option Addr) (l : List Nat) : Prop where
  at_ : ∀ (i : Nat) (h : Nat), l[i]? = some h → ∃ (blk off : Nat) (arr : Array Value) (el : TypeId) (fr : Nat × Nat), ad = some ⟨blk, off, none⟩ ∧ X blk = some (.cells arr el fr) ∧ arr[off + i * 1]? = some (.int .u64 (h : Nat))
variable (X : Nat → Option Obj)
end Go.Proofs.YtbpdbclndfmcgaaGreatDoor
end
section
namespace Go.Proofs.YtbpdbclndfmcgaaGreatDoor
open Go Go.Lg Go.Lg.Fld Go.Lg.Sg
set_option maxRecDepth 100000
structure Ac where
  kind : Int
  i : Int
  e : Nat
  p : List Pt
structure AcsIn (X : Nat → Option Obj) (ad : Option Addr) (acs : List Ac) : Prop where
  at_ : ∀ (i : Nat) (a : Ac), acs[i]? = some a → ∃ (blk off : Nat) (arr : Array Value) (el : TypeId) (fr : Nat × Nat) (pad : Option Addr) (pcap : Nat), ad = some ⟨blk, off, none⟩ ∧ X blk = some (.cells arr el fr) ∧ off + i * 4 + 4 ≤ arr.size ∧
    (arr.toList.drop (off + i * 4)).take 4 = [.int .i64 a.kind, .int .i64 a.i, .int .u64 (a.e : Nat), .slice pad a.p.length pcap] ∧ PartsC X pad a.p
  small : ∀ a ∈ acs, (-9223372036854775808 ≤ a.kind ∧ a.kind < 9223372036854775808) ∧ (-9223372036854775808 ≤ a.i ∧ a.i < 9223372036854775808) ∧ a.e < 18446744073709551616 ∧ a.p.length < 4611686018427387904 ∧ ∀ x ∈ a.p, x.val.length < 4611686018427387904
theorem firstE_val {f : Nat → Int} : ∀ {n i : Nat}, firstE f i n ≠ 0 → ∃ j, i ≤ j ∧ j < i + n ∧ f j = firstE f i n
  | 0, i, h => absurd rfl h
  | n + 1, i, h => by
    unfold firstE at h ⊢
    by_cases c : f i = 0
    · rw [if_pos c] at h ⊢
      obtain ⟨j, h1, h2, h3⟩ := firstE_val h
      exact ⟨j, by omega, by omega, h3⟩
    · rw [if_neg c] at h ⊢
      exact ⟨i, Nat.le_refl _, by omega, rfl⟩
theorem chk_lay16 {s : Sc} (h : chkE s = 0) : ∀ c ∈ s.cs, layErr c.fs = 0 := fun c hc => by
  unfold chkE at h
  split at h
  · cases h
  obtain ⟨j, hj⟩ := List.mem_iff_getElem?.1 hc
  have h1 := firstE_zero h j (Nat.zero_le _) (by have := (List.getElem?_eq_some_iff.1 hj).1; omega)
  unfold cmpE at h1
  rw [hj] at h1
  simp only at h1
  split at h1
  · cases h1
  split at h1
  · split at h1
    · cases h1
    · split at h1
      · exact h1
      · cases h1
  · cases h1
theorem parts_five {s : Sc} (h : chkE s = 0) (l : List Pt) : partsE s.cs l ≠ 5 := fun e => by
  obtain ⟨j, _, _, h3⟩ := firstE_val (f := ptE s.cs l) (n := l.length) (i := 0) (by show partsE s.cs l ≠ 0; rw [e]; decide)
  rw [show firstE (ptE s.cs l) 0 l.length = 5 from e] at h3
  unfold ptE at h3
  cases hl : l[j]? with
  | none => rw [hl] at h3; cases h3
  | some p =>
    rw [hl] at h3
    simp only at h3
    split at h3
    · cases h3
    · unfold partE at h3
      cases hf : s.cs.find? (fun c => c.id == p.comp) with
      | none => rw [hf] at h3; cases h3
      | some c =>
        rw [hf] at h3
        simp only at h3
        unfold fitErr at h3
        rw [if_pos (chk_lay16 h c (List.mem_of_find?_eq_some hf))] at h3
        split at h3
        · split at h3 <;> cases h3
        · cases h3
theorem add_five {t : Tb} (h : TbOk t) (e : Nat) (l : List Pt) : (addE t e l = 5 → roomT t = 0) ∧ (addE t e l = 0 → roomT t ≠ 0) := by
  rcases addE_facts (t := t) (e := e) (l := l) with ⟨_, h'⟩ | ⟨_, _, h'⟩ | ⟨_, _, h1, h'⟩ | ⟨_, _, _, h1, h'⟩ | ⟨_, _, _, h1, h'⟩
  · rw [h']; exact ⟨fun x => absurd x (by decide), fun x => absurd x (by decide)⟩
  · rw [h']; exact ⟨fun x => absurd x (by decide), fun x => absurd x (by decide)⟩
  · rw [h']; exact ⟨fun x => absurd x (parts_five h.sc l), fun x => absurd x h1⟩
  · rw [h']; exact ⟨fun _ => h1, fun x => absurd x (by decide)⟩
  · rw [h']; exact ⟨fun x => absurd x (by decide), fun _ => h1⟩
theorem room_sum {t : Tb} (h : TbOk t) : roomT t + t.l.length + t.kept = t.most := by have := h.room; unfold roomT; omega
theorem rest_u16 {v : Int} (k : Nat) (hk : 0 < k) (hk2 : k < 9223372036854775808) : ∃ r : Nat, r < k ∧ (IntKind.u64.wrap v).tmod (k : Int) = (r : Nat) := by
  have h0 : 0 ≤ IntKind.u64.wrap v ∧ IntKind.u64.wrap v < 18446744073709551616 := by
    simp only [IntKind.wrap, IntKind.bits, IntKind.signed]
    simp
    omega
  refine ⟨((IntKind.u64.wrap v).tmod (k : Int)).toNat, ?_, ?_⟩
  · have := Int.tmod_lt_of_pos (IntKind.u64.wrap v) (show (0 : Int) < (k : Int) by omega)
    have := Int.tmod_nonneg (k : Int) h0.1
    omega
  · have := Int.tmod_nonneg (k : Int) h0.1
    omega
variable (X : Nat → Option Obj)
end Go.Proofs.YtbpdbclndfmcgaaGreatDoor
end
section
namespace Go.Proofs.YtbpdbclndfmcgaaGreatDoor
open Go Go.Lg Go.Lg.Fld Go.Lg.Sg Go.RowKit Go.ChangeShapes Go.WideShapes Go.Joins
set_option maxRecDepth 100000
section
variable {H : Type} {enc : TypeId × Value → H} {w : World}
theorem open_acts16_w {fuel : Nat} {l : List Value} {x : DataW H × List MemPlace} (h : DataW.trod enc Tryz.prog w 0 (fun _ => true) true fuel 26 l = some x) (hw : Light Tryz.prog 26 x.1) :
    ∃ (ad : Option Addr) (cap : Nat) (ls : List Ac), l = [.slice ad ls.length cap] ∧ ls.length ≤ 4398046511104 * 4 ∧ AcsIn (fun b => w.heap[b]?) ad ls := by
  obtain ⟨ad, cap, rows, rfl, hb, h1, _, h3, h4⟩ := open_rows_w (e := 64) (sz := 4) (by kernel_rfl) (by kernel_rfl) (by decide) h hw
  obtain ⟨ts, rfl, h5⟩ := map_of (f := fun t : Ac × Option Addr × Nat => [.int .i64 t.1.kind, .int .i64 t.1.i, .int .u64 (t.1.e : Nat), .slice t.2.1 t.1.p.length t.2.2]) (q := fun t => (PartsC (fun b => w.heap[b]?) t.2.1 t.1.p ∧ t.1.p.length ≤ 4398046511104 * 4 ∧ ∀ x ∈ t.1.p, x.val.length ≤ 4398046511104 * 4) ∧ (-9223372036854775808 ≤ t.1.kind ∧ t.1.kind < 9223372036854775808) ∧ (-9223372036854775808 ≤ t.1.i ∧ t.1.i < 9223372036854775808) ∧ t.1.e < 18446744073709551616) (vs := rows) (fun u hu => by
    obtain ⟨hlen, n, x, hx, hxw⟩ := h4 u hu
    obtain ⟨y0, y1, y2, y3, n', ex, _, g0, g1, g2, g3⟩ := trod_struct4 (t := 64) Tryz.underlying64 hx
    rw [ex] at hxw
    have hF3 := (Light.struct4 Tryz.underlying64 hxw).2.2.2
    obtain ⟨c0, c1, c2, c3, rfl⟩ : ∃ c0 c1 c2 c3, u = [c0, c1, c2, c3] := by
      match u, hlen with
      | [c0, c1, c2, c3], _ => exact ⟨c0, c1, c2, c3, rfl⟩
    obtain ⟨k, e0, _, wa0⟩ := DataW.trod_int (k := .i64) (by kernel_rfl) g0
    obtain ⟨i, e1, _, wa1⟩ := DataW.trod_int (k := .i64) (by kernel_rfl) g1
    obtain ⟨s, e2, _, wa2⟩ := DataW.trod_int (k := .u64) (by kernel_rfl) g2
    obtain ⟨vad, vcap, ps, e3, _, hF1, hF, hF2⟩ := open_parts_w g3 hF3
    have q0 : c0 = .int .i64 k := by simpa using (show ([c0, c1, c2, c3].drop 0).take 1 = [.int .i64 k] from e0)
    have q1 : c1 = .int .i64 i := by simpa using (show ([c0, c1, c2, c3].drop 1).take 1 = [.int .i64 i] from e1)
    have q2 : c2 = .int .u64 s := by simpa using (show ([c0, c1, c2, c3].drop 2).take 1 = [.int .u64 s] from e2)
    have q3 : c3 = .slice vad ps.length vcap := by simpa using (show ([c0, c1, c2, c3].drop 3).take 1 = [.slice vad ps.length vcap] from e3)
    subst q0 q1 q2 q3
    have b0 := bounds_i64 wa0
    have b1 := bounds_i64 wa1
    have b2 := bounds_u64 wa2
    obtain ⟨s', rfl⟩ : ∃ s' : Nat, s = (s' : Int) := ⟨s.toNat, by omega⟩
    exact ⟨(⟨k, i, s', ps⟩, vad, vcap), rfl, ⟨hF, hF1, hF2⟩, (show (-9223372036854775808 ≤ k ∧ k < 9223372036854775808) ∧ (-9223372036854775808 ≤ i ∧ i < 9223372036854775808) ∧ s' < 18446744073709551616 by omega)⟩)
  refine ⟨ad, cap, ts.map (·.1), by rw [List.length_map, List.length_map], by rw [List.length_map, show Tryz.prog.bytesOf 64 = 48 by kernel_rfl, show reachBytes = 140737488351232 by decide] at hb; rw [List.length_map]; omega, ⟨fun i c hc => ?_, fun c hc => ?_⟩⟩
  · rw [List.getElem?_map] at hc
    cases ht : ts[i]? with
    | none => rw [ht] at hc; cases hc
    | some t =>
      rw [ht] at hc
      simp only [Option.map_some, Option.some.injEq] at hc
      subst hc
      obtain ⟨blk, off, arr, el, fr, g1, g2, g3, g4⟩ := h3 i _ (by rw [List.getElem?_map, ht]; rfl)
      exact ⟨blk, off, arr, el, fr, t.2.1, t.2.2, g1, g2, g3, g4, (h5 t (List.mem_of_getElem? ht)).1.1⟩
  · obtain ⟨t, ht, rfl⟩ := List.mem_map.1 hc
    obtain ⟨⟨_, k1, k2⟩, k3, k4, k5⟩ := h5 t ht
    exact ⟨k3, k4, k5, by omega, fun x hx => by have := k2 x hx; omega⟩
theorem open_acts16 {r : Reach} {b0 : Nat} {v : Value} {d : DataW H} {p : List MemPlace} (hv : Value.okWide Tryz.prog w r b0 26 v) (h : DataW.Trod enc Tryz.prog w 0 (fun _ => true) true 26 v d p) (hw : Light Tryz.prog 26 d) :
    ∃ (ad : Option Addr) (cap : Nat) (ls : List Ac), v = .slice ad ls.length cap ∧ ls.length ≤ 4398046511104 * 4 ∧ AcsIn (fun b => w.heap[b]?) ad ls := by
  obtain ⟨a, len, cap0, rfl⟩ := okWide_slice (e := 64) (by kernel_rfl) hv
  obtain ⟨fuel, hf⟩ := h
  obtain ⟨ad, cap, ls, e1, h1, h2⟩ := open_acts16_w hf hw
  simp [Value.cells] at e1
  obtain ⟨rfl, rfl, rfl⟩ := e1
  exact ⟨_, _, ls, rfl, h1, h2⟩
end
end Go.Proofs.YtbpdbclndfmcgaaGreatDoor
end
section
namespace Go.Proofs.YtbpdbclndfmcgaaGreatDoor
open Go Go.Lg Go.Lg.Fld Go.Lg.Sg
set_option maxRecDepth 100000
def fl16 : List Fl := [⟨[120], 6, 1⟩]
def sc16 : Sc := ⟨1, [⟨1, [97], fl16⟩, ⟨2, [98], []⟩]⟩
def p16 : List Pt := [⟨1, [(false, 7)]⟩]
def t16 : Tb := ⟨sc16, 2, 2, 0, []⟩
def t16a : Tb := addT t16 9 p16
def t16b : Tb := addT t16a 8 p16
def t16c : Tb := dropT t16b 0
def t16d : Tb := { t16c with kept := t16c.kept + 1 }
theorem good16 : goodT sc16 2 2 = true := by decide +kernel
theorem good16n : goodT sc16 8 1 = false := by decide +kernel
theorem q16a : addE t16 9 p16 = 0 := by decide +kernel
theorem q16b : addE t16a 8 p16 = 0 := by decide +kernel
theorem q16c : addE t16b 6 p16 = 5 := by decide +kernel
theorem q16d : tgetE t16b 0 1 = 0 := by decide +kernel
theorem q16e : bytesT t16b 0 1 = [7] := by decide +kernel
theorem q16f : movedT t16b 0 = 8 := by decide +kernel
theorem q16g : tgetE t16c 0 2 = 6 := by decide +kernel
theorem q16h : roomT t16c = 1 := by decide +kernel
theorem q16i : roomT t16d = 0 := by decide +kernel
theorem ok16 : TbOk t16 := TbOk.new (by decide) good16
theorem ok16a : TbOk t16a := (ok16.add (by decide) q16a).1
theorem ok16b : TbOk t16b := (ok16a.add (by decide) q16b).1
theorem ok16c : TbOk t16c := ok16b.drop (by decide +kernel)
theorem ok16d : TbOk t16d := ok16c.kept (by rw [q16h]; decide)
theorem inb16 : InB sc16.cs := by
  intro c hc
  simp only [sc16, List.mem_cons, List.not_mem_nil, or_false] at hc
  rcases hc with rfl | rfl
  · refine ⟨by decide, fun f hf => ?_⟩
    simp only [fl16, List.mem_cons, List.not_mem_nil, or_false] at hf
    subst hf; decide
  · exact ⟨by decide, fun f hf => by cases hf⟩
theorem few16 : sc16.cs.length ≤ 30 ∧ ∀ c ∈ sc16.cs, c.fs.length ≤ 12 := ⟨by decide, fun c hc => by
  simp only [sc16, List.mem_cons, List.not_mem_nil, or_false] at hc
  rcases hc with rfl | rfl <;> decide⟩
theorem lent_sc16 {S : Nat → Option (Option Box)} {Y : Nat → Option Obj} {k n : Nat} {cs : List Cp} {e : TypeId} {cc : List CV} {u : Value} (hk : S k = some (some ⟨e, cc, .res (scR cs)⟩)) (hu : LentC S Y (.slc k 0 n 3) u) : ∃ (blk cap : Nat), u = .slice (some ⟨blk, 0, none⟩) n cap ∧ CompsIn Y (some ⟨blk, 0, none⟩) cs := by
  obtain ⟨b, blk, cap2, m, hk', rfl, hc, hfit, hB⟩ := hu
  rw [hk] at hk'
  simp only [Option.some.injEq] at hk'
  subst hk'
  obtain ⟨H, hR, hHY⟩ := hB
  exact ⟨blk, cap2, rfl, scR_in hR hHY⟩
variable (X : Nat → Option Obj)
abbrev c16v (c : CV) : List CV := [.val (.int .i64 1), .val (.string ⟨#[97]⟩), c, .val (.int .i64 2), .val (.string ⟨#[98]⟩), .val (.slice none 0 0)]
theorem one16_spec : MSpec Tryz.prog X 34 [] [] (.sv (.agg [.val (.int .i64 1), .slc 1000001 0 2 3])) [scB 1000001 sc16.cs] := by
  refine MSpec.intro Tryz.func34 rfl (by kernel_rfl) rfl rfl (by exact (by repeat' (first | refine all_cons_true ?_ ?_ | rfl | exact bytes_inUse | exact vals_inUse | exact mid_inUse rfl))) rfl rfl ?_
  intro C
  refine LWP.ends ?_
  (refine LWP.seq <| rgN <| K.alloc rfl .plain ?_; refine RunK.nil <| LWP.seq <| rgN <| K.build rfl rfl (by exact rfl) (by exact nl3 rfl rfl rfl rfl) .plain ?_; refine K.buildSlc (zs := [Value.string ⟨#[]⟩, .int .i64 0, .int .i64 0]) (sz := 3) (e := 125) (cs' := (flV fl16).map .val) (by kernel_rfl) rfl rfl rfl rfl rfl rfl .plain <| K.build rfl rfl (by exact rfl) (by exact nl3 rfl rfl rfl rfl) .plain ?_; refine K.build rfl rfl (by exact rfl) (by exact nl3 rfl rfl rfl rfl) .plain ?_; refine K.buildSlc (zs := (List.replicate 2 [Value.int .i64 0, .string ⟨#[]⟩, .slice none 0 0]).flatten) (sz := 3) (e := 86) (cs' := c16v (.slc 2 0 1 3)) (by kernel_rfl) rfl rfl rfl rfl rfl rfl .plain <| K.build rfl rfl (by exact rfl) (by exact nl2 rfl rfl rfl) .plain ?_; refine K.storeAll rfl rfl rfl rfl rfl rfl .plain ?_; refine RunK.nil <| LWP.ret ?_)
  refine Leads.le (σ' := ⟨[(0, Lp 0)], [(5, some ⟨86, [.val (.int .i64 1), .val (.string ⟨#[97]⟩)] ++ .slc 2 0 1 3 :: [.val (.int .i64 2), .val (.string ⟨#[98]⟩), .val (.slice none 0 0)], false⟩), (2, some ⟨125, (flV fl16).map .val, false⟩), (0, some ⟨24, [.val (.int .i64 1), .slc 5 0 2 3], false⟩)], joinM X (fun _ => none)⟩) (by rw [joinM_nil]; exact Le.of (by exact ⟨rfl, trivial⟩) (by exact ⟨rfl, rfl, rfl, trivial⟩) (by exact rfl) (by exact rfl) (by repeat' (first | refine all_cons_true ?_ ?_ | rfl | exact bytes_inUse | exact vals_inUse | exact mid_inUse rfl))) ?_
  refine Leads.closeCell (OwnedM.nil C X) rfl rfl rfl rfl rfl rfl rfl fun b o v g1 _ hO3 hv => ?_
  have G : Twigs (withBlock (fun _ => none) b o) 125 3 [] [v, .slice none 0 0] (sc16.cs.map fun c => flV c.fs) := ((Twigs.nil _ _ _ _).push g1 hv (by decide)).pushZ none 0
  refine Leads.le (σ' := ⟨[(0, Lp 0)], [(5, some ⟨86, (rowsZ sc16.cs [v, .slice none 0 0] ++ []).map .val, false⟩), (0, some ⟨24, [.val (.int .i64 1), .slc 5 0 2 3], false⟩)], joinM X (withBlock (fun _ => none) b o)⟩) (Le.of (by exact ⟨rfl, trivial⟩) (by exact ⟨rfl, rfl, trivial⟩) (by exact rfl) (by exact rfl) (by repeat' (first | refine all_cons_true ?_ ?_ | rfl | exact bytes_inUse | exact vals_inUse | exact mid_inUse rfl))) ?_
  refine sc_shut hO3 G inb16 (Leads.done ?_)
  exact ⟨[(1000001, 5)], ⟨[_], ⟨⟨_, _, rfl, rfl, rfl, .inl ⟨AggT.h, rfl⟩⟩, trivial⟩, rfl⟩, (by repeat' (first | exact trivial | refine And.intro ⟨_, rfl, ?_⟩ ?_ | refine And.intro ⟨_, rfl⟩ ?_ | rfl | exact Box.ren_bytes _ _ _ _ | exact Box.ren_vals _ _ _ _ | exact Box.ren_mid rfl)), rfl, rfl⟩
theorem names16s : NamesIn sc16.cs := fun c hc => by
  have : ∀ c ∈ sc16.cs, c.nm.length ≤ 9223372036854775807 ∧ ∀ f ∈ c.fs, f.nm.length ≤ 9223372036854775807 := by decide
  exact this c hc
theorem new16_lent : MSpec Tryz.prog X 8 [.sv (.agg [.val (.int .i64 1), .slc 1000000 0 2 3]), Ln .u32 2, Ln .i64 2] [scB 1000000 sc16.cs] (Lp 1000001) ([scB 1000000 sc16.cs] ++ [tB 1000001 t16]) := by
  refine MSpec.lend (by kernel_rfl) rfl (by exact (by repeat' (first | refine all_cons_true ?_ ?_ | rfl | exact bytes_inUse | exact vals_inUse | exact mid_inUse rfl))) (by exact (by repeat' (first | refine all_cons_true ?_ ?_ | rfl | exact bytes_inUse | exact vals_inUse | exact mid_inUse rfl))) rfl rfl fun Y us hY hL => ?_
  obtain ⟨u1, us1, rfl, ⟨av, rfl, a1, av1, rfl, g1, a2, av2, rfl, g2, rfl⟩, u2, us2, rfl, h2, u3, us3, rfl, h3, rfl⟩ := hL
  have g1 : a1 = .int .i64 1 := g1
  have h2 : u2 = .int .u32 2 := h2
  have h3 : u3 = .int .i64 2 := h3
  subst g1 h2 h3
  obtain ⟨blk, cap, rfl, hin⟩ := lent_sc16 (S := stOf [scB 1000000 sc16.cs]) (k := 1000000) rfl g2
  exact tNew Y sc16 2 2 (some ⟨blk, 0, none⟩) cap hin names16s few16 (by decide) good16
theorem new16_no {S : Nat → Option (Option Box)} {k : Nat} {e : TypeId} {cc : List CV} (hk : S k = some (some ⟨e, cc, .res (scR sc16.cs)⟩)) :
    ∀ (Y : Nat → Option Obj) (us : List Value), (∀ b o, X b = some o → Y b = some o) → LentLs S Y [.sv (.agg [.val (.int .i64 1), .slc k 0 2 3]), Ln .u32 8, Ln .i64 1] us → PSpec Tryz.prog Y 8 (us.map toLV) LnilT := by
  intro Y us hY hL
  obtain ⟨u1, us1, rfl, ⟨av, rfl, a1, av1, rfl, g1, a2, av2, rfl, g2, rfl⟩, u2, us2, rfl, h2, u3, us3, rfl, h3, rfl⟩ := hL
  have g1 : a1 = .int .i64 1 := g1
  have h2 : u2 = .int .u32 8 := h2
  have h3 : u3 = .int .i64 1 := h3
  subst g1 h2 h3
  obtain ⟨blk, cap, rfl, hin⟩ := lent_sc16 hk g2
  exact tNew_no Y sc16 8 1 (some ⟨blk, 0, none⟩) cap hin names16s few16 (by decide) good16n
end Go.Proofs.YtbpdbclndfmcgaaGreatDoor
end
