/- A piece of a proof over this program: contracts of its functions, and a logic to prove them by. -/
import Derived.Test.YtdlilapjijpghaaP3
import Derived.Test.YtdlilapjijpghaaP4
import Derived.Test.YtdlilapjijpghaaRows
section
-- package column as it landed: Rows, Clone
namespace Go.Lg.Col
open Go Go.Lg
theorem joinM_keeps {C : Ctx} {Y H : Nat → Option Obj} (hO : OwnedM C Y H) {b : Nat} {o : Obj} (h : Y b = some o) : joinM Y H b = some o := by
  cases hb : H b with
  | none => rw [joinM_out hb]; exact h
  | some o' => have := (hO.own b o' hb).2.2; rw [this] at h; cases h
theorem fill_put {α : Type} {l : List α} {m i : Nat} {z x : α} (hl : l.length = i) (hi : i < m) : (l ++ List.replicate (m - i) z).set i x = l ++ x :: List.replicate (m - (i + 1)) z := by
  rw [List.set_append_right _ _ (by omega), hl, Nat.sub_self, show m - i = (m - (i + 1)) + 1 by omega, List.replicate_succ]; rfl
/-- the first i rows, and empty texts -/
def fillR (L : List (List UInt8)) (i : Nat) : List Value := txV (L.take i) ++ List.replicate (L.length - i) (.string ⟨#[]⟩)
theorem fillR_len {L : List (List UInt8)} {i : Nat} (h : i ≤ L.length) : (fillR L i).length = L.length := by
  unfold fillR; rw [List.length_append, txV_len, List.length_take, List.length_replicate]; omega
theorem fillR_put {L : List (List UInt8)} {i : Nat} {l : List UInt8} (h : L[i]? = some l) : (fillR L i).set i (strV l) = fillR L (i + 1) := by
  have hi := (List.getElem?_eq_some_iff.1 h).1
  unfold fillR
  rw [fill_put (by rw [txV_len, List.length_take]; omega) hi, snoc h]
  unfold txV
  simp
theorem fillR_full (L : List (List UInt8)) : fillR L L.length = txV L := by
  unfold fillR; rw [List.take_length, Nat.sub_self, List.replicate_zero, List.append_nil]
end Go.Lg.Col
namespace Go.Proofs.Ytdlilapjijpghaa
open Go Go.Lg Go.Lg.Col
set_option maxRecDepth 100000
/-- the rows that Rows answers -/
abbrev rwB (k : Nat) (L : List (List UInt8)) : Nat × Option Box := (k, some ⟨9, (txV L).map .val, false⟩)
variable (X : Nat → Option Obj)
theorem copy_spec {b len cap : Nat} {arr : Array Value} {fr : Nat × Nat} {ch : List UInt8} {sp : List Value} (hX : X b = some (.cells arr 5 fr)) (ha : arr.toList = byV ch ++ sp) (hl : ch.length = len) (hb : len ≤ 65536) :
    MSpec Try.prog X 26 [.sv (.one (.val (.slice (some ⟨b, 0, none⟩) len cap)))] [] (.sv (.one (.slc 1000001 0 len))) [(1000001, some ⟨5, ch.map bc, true⟩)] := by
  refine MSpec.intro Try.func26 rfl (by kernel_rfl) rfl rfl (by exact (by repeat' (first | refine all_cons_true ?_ ?_ | rfl | exact bytes_inUse | exact vals_inUse | exact mid_inUse rfl))) rfl rfl ?_
  intro C
  have hin : OneIn X (some ⟨b, 0, none⟩) (byV ch) := one_in hX ⟨sp, ha⟩
  have hnl : (byV ch).length = len * 1 := by rw [byV_len]; omega
  have hone : ∀ u ∈ byV ch, u.oneCell' = true := fun u hu => by
    obtain ⟨c, _, rfl⟩ := List.mem_map.1 hu
    rfl
  (refine LWP.seq <| LWP.region (by kernel_rfl) <| kas rfl <| RunK.nil <| LWP.seq <| LWP.seq <| LWP.region (by kernel_rfl) <| kmv rfl <| K.slcNil (r := false) rfl SliceT.h (.inl ⟨rfl, rfl⟩) .plain ?_; refine RunK.nil <| LWP.condF rfl ?_; refine LWP.skip ?_; refine LWP.seq <| LWP.region (by kernel_rfl) <| K.buildSlc (zs := []) (sz := 1) (e := 5) (by kernel_rfl) rfl rfl rfl rfl rfl rfl .plain <| kmv rfl <| K.appendX (by_ := 1) (e2 := 5) (news := byV ch) (nl := len) (nc := ch.map bc) rfl rfl rfl rfl ⟨hin⟩ hnl hone (by kernel_rfl) (by kernel_rfl) (by omega) (by omega) rfl (by omega) (by rw [byV_bc]; rfl) .plain ?_; refine kas rfl <| RunK.nil <| LWP.ret ?_)
  exact ⟨[(1000001, 7)], ⟨[_], ⟨rfl, trivial⟩, rfl⟩, (by repeat' (first | exact trivial | refine And.intro ⟨_, rfl, ?_⟩ ?_ | refine And.intro ⟨_, rfl⟩ ?_ | rfl | exact Box.ren_bytes _ _ _ _ | exact Box.ren_vals _ _ _ _ | exact Box.ren_mid rfl)), rfl, rfl⟩
theorem cRows_nil : MSpec Try.prog X 16 [L0] [] (.sv (.one (.slc 1000001 0 0))) [rwB 1000001 []] := by
  refine MSpec.intro Try.func16 rfl (by kernel_rfl) rfl rfl (by exact (by repeat' (first | refine all_cons_true ?_ ?_ | rfl | exact bytes_inUse | exact vals_inUse | exact mid_inUse rfl))) rfl rfl ?_
  intro C
  have hn := cLen_nil X
  have hmk : slcBuild Try.prog 34 0 = some ([], 1, 9) := slcBuild_one (v := .string ⟨#[]⟩) (by kernel_rfl) (by kernel_rfl) (by omega)
  (refine LWP.seq <| LWP.region (by kernel_rfl) <| kas rfl <| RunK.nil <| LWP.seq <| LWP.region (by kernel_rfl) <| kmv rfl <| kca rfl rfl (hn) <| K.makeSlc (m := 0) (bytes := 16) rfl rfl hmk (by kernel_rfl) (by omega) rfl rfl .plain <| kas rfl <| RunK.nil <| LWP.seq <| LWP.seq <| LWP.region (by kernel_rfl) ?_; refine kmv rfl <| K.lenSlc rfl SliceT.h rfl .plain ?_; refine kmv rfl <| RunK.nil <| LWP.block ?_)
  refine LWP.loop (fun m σ => σ = ⟨[(3, .sv (.one (.slc 7 0 0))), (9, Ln .i64 0), (10, Ln .i64 0)], [rwB 7 []], X⟩) 0 ⟨_, Le.of (by exact ⟨rfl, rfl, rfl, trivial⟩) (by exact ⟨rfl, trivial⟩) (by exact rfl) (by exact rfl) (by repeat' (first | refine all_cons_true ?_ ?_ | rfl | exact bytes_inUse | exact vals_inUse | exact mid_inUse rfl)), rfl⟩ ?_
  rintro m σ rfl
  (refine LWP.seq <| LWP.region (by kernel_rfl) <| klt rfl rfl (decide_eq_false (by omega)) <| RunK.nil <| LWP.seq <| LWP.condF rfl ?_; refine LWP.exit <| LWP.seq <| LWP.region (by kernel_rfl) <| kmv rfl <| kas rfl <| RunK.nil <| LWP.ret ?_)
  exact ⟨[(1000001, 7)], ⟨[_], ⟨rfl, trivial⟩, rfl⟩, (by repeat' (first | exact trivial | refine And.intro ⟨_, rfl, ?_⟩ ?_ | refine And.intro ⟨_, rfl⟩ ?_ | rfl | exact Box.ren_bytes _ _ _ _ | exact Box.ren_vals _ _ _ _ | exact Box.ren_mid rfl)), rfl, rfl⟩
set_option maxHeartbeats 3200000 in
theorem cRows_spec (size cap : Nat) (L : List (List UInt8)) : MSpec Try.prog X 16 [Lp 1000000] [cB 1000000 size cap L] (.sv (.one (.slc 1000001 0 L.length))) [cB 1000000 size cap L, rwB 1000001 L] := by
  refine MSpec.intro Try.func16 rfl (by kernel_rfl) rfl rfl (by exact (by repeat' (first | refine all_cons_true ?_ ?_ | rfl | exact bytes_inUse | exact vals_inUse | exact mid_inUse rfl))) rfl rfl ?_
  intro C
  have hn := cLen_spec X size cap L
  refine LWP.ends ?_
  by_cases hbig : 65536 < L.length
  · refine col_open fun H v cells B hO hI => ?_
    have := hI.pk.fit
    have := hI.pk.small
    omega
  have hmk : slcBuild Try.prog 34 L.length = some (List.replicate L.length (.string ⟨#[]⟩), 1, 9) := slcBuild_one (by kernel_rfl) (by kernel_rfl) (by omega)
  have hz0 : (List.replicate L.length (Value.string ⟨#[]⟩)).map CV.val = (fillR L 0).map .val := rfl
  (refine LWP.seq <| LWP.region (by kernel_rfl) <| kas rfl <| RunK.nil <| LWP.seq <| LWP.region (by kernel_rfl) <| kmv rfl <| K.callR [(1000000, 1000000)] (hn) rfl rfl (by exact (And.intro ⟨_, rfl, rfl⟩ trivial)) (by exact (all_cons_true rfl rfl)) rfl rfl rfl rfl .plain <| K.makeSlc (m := L.length) (bytes := 16) rfl rfl hmk (by kernel_rfl) (by omega) hz0 rfl .plain <| kas rfl <| RunK.nil <| LWP.seq <| LWP.seq <| LWP.region (by kernel_rfl) ?_; refine kmv rfl <| K.lenSlc rfl SliceT.h rfl .plain ?_; refine kmv rfl <| RunK.nil <| LWP.block ?_)
  refine LWP.le (σ' := ⟨[(0, Lp 1000000), (3, .sv (.one (.slc 7 0 L.length))), (9, Ln .i64 (L.length : Nat)), (10, Ln .i64 0)], [cB 1000000 size cap L, (7, some ⟨9, (fillR L 0).map .val, false⟩)], X⟩) (Le.of (by exact ⟨rfl, rfl, rfl, rfl, trivial⟩) (by exact ⟨rfl, rfl, trivial⟩) (by exact rfl) (by exact rfl) (by repeat' (first | refine all_cons_true ?_ ?_ | rfl | exact bytes_inUse | exact vals_inUse | exact mid_inUse rfl))) ?_
  refine col_open fun H v cells B hO hI => ?_
  refine LWP.loop (fun m σ => ∃ i : Nat, i ≤ L.length ∧ m = L.length - i ∧ σ = ⟨[(0, Lp 1000000), (3, .sv (.one (.slc 7 0 L.length))), (9, Ln .i64 (L.length : Nat)), (10, Ln .i64 (i : Nat))], [sB 1000000 size cap L.length (.val v), (7, some ⟨9, (fillR L i).map .val, false⟩)], joinM X H⟩) L.length
    ⟨_, Le.of (by exact ⟨rfl, rfl, rfl, rfl, trivial⟩) (by exact ⟨rfl, rfl, trivial⟩) (by exact rfl) (by exact rfl) (by repeat' (first | refine all_cons_true ?_ ?_ | rfl | exact bytes_inUse | exact vals_inUse | exact mid_inUse rfl)), 0, by omega, by omega, rfl⟩ ?_
  rintro m σ ⟨i, hi, rfl, rfl⟩
  by_cases hlt : i < L.length
  · obtain ⟨l, hl⟩ : ∃ l, L[i]? = some l := ⟨_, List.getElem?_eq_getElem hlt⟩
    have hp := hI.pk.chunk hlt
    have hfit := place_fit i size
    have hsm := hI.pk.small
    have hq := hI.pk.fit
    have hrow := hI.pk.row i l hl
    unfold rowOf at hrow
    obtain ⟨db, ccap, arr, fr, b, cap2, arr2, fr2, sp, rfl, h1, h2, h3, h4, h5⟩ := hI.place hp
    obtain ⟨h6, h7⟩ := chunk_read (p := i % 16 * size) (z := size) h5 (by rw [hI.pk.len_at hp]; exact hfit)
    have hat := at_X (joinM X H) size cap L.length i (ccap := ccap) hsm.1 (by omega) hp (joinM_in h1) h2 hfit h3
    have hb : (arr2.toList.drop (i % 16 * size)).take size = l.map fun c => Value.int .u8 (c.toNat : Nat) := by rw [h7, hrow]; rfl
    have hX2 := joinM_in (X := X) h4
    have hix : 0 + Int.toNat ((i : Nat) : Int) * 1 = i := by rw [Int.toNat_natCast]; omega
    have hblt : Nat.blt i ((fillR L i).map CV.val).length = true := by rw [Nat.blt_eq, List.length_map, fillR_len hi]; exact hlt
    have hput : ((fillR L i).map CV.val).set i (.val (strV l)) = (fillR L (i + 1)).map CV.val := by rw [← fillR_put hl, List.map_set]
    generalize i % 16 * size = p at *
    (refine LWP.seq <| LWP.region (by kernel_rfl) <| klt rfl rfl (decide_eq_true (by omega)) <| RunK.nil <| LWP.seq <| LWP.condT rfl ?_; refine LWP.skip ?_; refine LWP.seq <| LWP.block <| LWP.seq <| LWP.region (by kernel_rfl) <| kmv rfl <| kas rfl <| RunK.nil <| LWP.region (by kernel_rfl) <| kmv rfl <| kmv rfl <| kmv rfl <| kmv rfl <| K.callR [(1000000, 1000000)] (hat) rfl rfl (by exact (And.intro ⟨_, rfl, rfl⟩ trivial)) (by exact (all_cons_true (all_cons_true rfl (all_cons_true rfl (all_cons_true rfl (all_cons_true rfl rfl)))) rfl)) rfl rfl rfl rfl .plain <| K.convStrX (l := l) rfl hX2 (by kernel_rfl) StrT.u h6 hb .plain ?_; refine K.indexSlc rfl rfl (by omega) hix .plain ?_; refine K.storeOne rfl rfl rfl rfl hblt hput .plain <| RunK.nil <| LWP.region (by kernel_rfl) <| kad rfl rfl (wrap_i64 (by omega)) <| kmv rfl <| RunK.nil ?_)
    exact ⟨_, _, by omega, Le.of (by exact ⟨rfl, rfl, rfl, rfl, trivial⟩) (by exact ⟨rfl, rfl, trivial⟩) (by exact rfl) (by exact rfl) (by repeat' (first | refine all_cons_true ?_ ?_ | rfl | exact bytes_inUse | exact vals_inUse | exact mid_inUse rfl)), i + 1, by omega, rfl, rfl⟩
  · have e : i = L.length := by omega
    subst e
    (refine LWP.seq <| LWP.region (by kernel_rfl) <| klt rfl rfl (decide_eq_false (by omega)) <| RunK.nil <| LWP.seq <| LWP.condF rfl ?_; refine LWP.exit <| LWP.seq <| LWP.region (by kernel_rfl) <| kmv rfl <| kas rfl <| RunK.nil <| LWP.ret ?_)
    refine Leads.le (σ' := ⟨[(2, .sv (.one (.slc 7 0 L.length)))], [sB 1000000 size cap L.length (.val v), rwB 7 L], joinM X H⟩) (by
      rw [fillR_full]
      exact Le.of (by exact ⟨rfl, trivial⟩) (by exact ⟨rfl, rfl, trivial⟩) (by exact rfl) (by exact rfl) (by repeat' (first | refine all_cons_true ?_ ?_ | rfl | exact bytes_inUse | exact vals_inUse | exact mid_inUse rfl))) ?_
    refine col_shut hO hI (Leads.done ?_)
    exact ⟨[(1000001, 7)], ⟨[_], ⟨rfl, trivial⟩, rfl⟩, (by repeat' (first | exact trivial | refine And.intro ⟨_, rfl, ?_⟩ ?_ | refine And.intro ⟨_, rfl⟩ ?_ | rfl | exact Box.ren_bytes _ _ _ _ | exact Box.ren_vals _ _ _ _ | exact Box.ren_mid rfl)), rfl, rfl⟩
end Go.Proofs.Ytdlilapjijpghaa
end
section
-- package column as it landed: Clone
namespace Go.Proofs.Ytdlilapjijpghaa
open Go Go.Lg Go.Lg.Col
set_option maxRecDepth 100000
abbrev nilsV (k : Nat) : List Value := List.replicate k nilSlc
/-- between two chunks of the clone -/
abbrev clSt (z q n nb i : Nat) (v : Value) (cells2 : List Value) (Y : Nat → Option Obj) : St :=
  ⟨[(0, Lp 1000000), (3, Lp 3), (21, .sv (.one (.val v))), (22, Ln .i64 (nb : Nat)), (23, Ln .i64 (i : Nat))], [(16, some ⟨51, (cells2 ++ nilsV (nb - i)).map .val, false⟩), sB 3 z q n (.slc 16 0 nb), sB 1000000 z q n (.val v)], Y⟩
variable (X : Nat → Option Obj)
set_option maxHeartbeats 6400000 in
theorem cClone_spec (size cap : Nat) (L : List (List UInt8)) : MSpec Try.prog X 17 [Lp 1000000] [cB 1000000 size cap L] (Lp 1000001) [cB 1000000 size cap L, cB 1000001 size cap L] := by
  refine MSpec.intro Try.func17 rfl (by kernel_rfl) rfl rfl (by exact (by repeat' (first | refine all_cons_true ?_ ?_ | rfl | exact bytes_inUse | exact vals_inUse | exact mid_inUse rfl))) rfl rfl ?_
  intro C
  refine LWP.ends (col_open fun H v cells B hO hI => ?_)
  have hnb := hI.pk.nb
  have hsm := hI.pk.small
  have hq := hI.pk.fit
  have hmk : slcBuild Try.prog 54 B.length = some (nilsV B.length, 1, 51) := slcBuild_one (by kernel_rfl) (by kernel_rfl) (by omega)
  obtain ⟨ad, ccap, hv⟩ := hI.slice
  rw [hv]
  (refine LWP.seq <| LWP.region (by kernel_rfl) <| kas rfl <| RunK.nil <| LWP.seq <| LWP.seq <| LWP.region (by kernel_rfl) <| kmv rfl <| K.ptrNil rfl (by kernel_rfl) (.inl ⟨rfl, rfl⟩) .plain <| RunK.nil <| LWP.condF rfl ?_; refine LWP.skip ?_; refine LWP.seq <| LWP.region (by kernel_rfl) <| kmv rfl <| K.nilCheck rfl .plain <| K.loadAll rfl rfl rfl .plain ?_; refine K.alloc rfl .plain ?_; refine K.storeAll rfl rfl rfl rfl rfl rfl .plain ?_; refine RunK.nil <| LWP.seq <| LWP.region (by kernel_rfl) <| kmv rfl <| K.nilCheck rfl .plain <| kfa rfl rfl ?_; refine kl1 rfl rfl rfl <| K.lenX rfl SliceT.h rfl .plain ?_; refine K.makeSlc (m := B.length) (bytes := 24) rfl rfl hmk (by kernel_rfl) (by omega) rfl rfl .plain <| kfa rfl rfl ?_; refine K.storeOne rfl rfl rfl rfl rfl (nl4 rfl rfl rfl rfl rfl) .plain <| RunK.nil <| LWP.seq <| LWP.seq <| LWP.region (by kernel_rfl) <| kmv rfl <| K.nilCheck rfl .plain <| kfa rfl rfl ?_; refine kl1 rfl rfl rfl <| K.lenX rfl SliceT.h rfl .plain ?_; refine kmv rfl <| RunK.nil <| LWP.block ?_)
  rw [← hv]
  refine LWP.loopL (fun m σ => ∃ (i : Nat) (cells2 : List Value) (H2 : Nat → Option Obj), i ≤ B.length ∧ m = B.length - i ∧ OwnedM C (joinM X H) H2 ∧ Cells H2 5 [] cells2 ((B.take i).map byV) ∧ σ = clSt size cap L.length B.length i v cells2 (joinM (joinM X H) H2)) B.length
    (Leads.le (σ' := clSt size cap L.length B.length 0 v [] (joinM X H)) ?_ (Leads.done ⟨0, [], fun _ => none, by omega, by omega, OwnedM.nil _ _, Cells.nil _ _ _, rfl⟩)) ?_
  · exact Le.of (by exact ⟨rfl, rfl, rfl, rfl, rfl, trivial⟩) (by exact ⟨rfl, rfl, rfl, trivial⟩) (by exact rfl) (by exact rfl) (by repeat' (first | refine all_cons_true ?_ ?_ | rfl | exact bytes_inUse | exact vals_inUse | exact mid_inUse rfl))
  rintro m σ ⟨i, cells2, H2, hi, rfl, hO2, G2, rfl⟩
  have hc2 : cells2.length = i := by rw [G2.len, List.length_map, List.length_take]; omega
  by_cases hlt : i < B.length
  · obtain ⟨db, ccap', arr, fr, b, cap2, arr2, fr2, sp, hv', h1, h2, h3, h4, h5⟩ := hI.place hlt
    have hbl := hI.pk.len_at hlt
    have hX1 := joinM_keeps hO2 (joinM_in (X := X) h1)
    have hX2 := joinM_keeps hO2 (joinM_in (X := X) h4)
    have hcp := copy_spec (joinM (joinM X H) H2) (cap := cap2) hX2 h5 hbl (by omega)
    have hix : 0 + Int.toNat ((i : Nat) : Int) * 1 = i := by rw [Int.toNat_natCast]; omega
    have hblt : Nat.blt i ((cells2 ++ nilsV (B.length - i)).map CV.val).length = true := by rw [Nat.blt_eq, List.length_map, List.length_append, List.length_replicate]; omega
    have hput : ((cells2 ++ nilsV (B.length - i)).map CV.val).set i (.slc 32 0 (16 * size)) = cells2.map .val ++ .slc 32 0 (16 * size) :: (nilsV (B.length - (i + 1))).map .val := by
      rw [List.map_append, List.map_replicate, List.map_replicate]
      exact fill_put (by rw [List.length_map]; exact hc2) hlt
    rw [hv']
    (refine LWP.seq <| LWP.region (by kernel_rfl) <| klt rfl rfl (decide_eq_true (by omega)) <| RunK.nil <| LWP.seq <| LWP.condT rfl ?_; refine LWP.skip ?_; refine LWP.seq <| LWP.block <| LWP.seq <| LWP.region (by kernel_rfl) <| kmv rfl <| K.indexX rfl rfl SliceT.h (by omega) hix .plain <| K.loadX rfl hX1 rfl h2 .plain <| kas rfl <| kas rfl <| RunK.nil <| LWP.draws mixed (by kernel_rfl) <| kfa rfl rfl ?_; refine kl1 rfl rfl rfl <| kmv rfl <| kmv rfl <| K.callMp [(1000001, 32)] (.sv (.one (.slc 32 0 (16 * size)))) [(32, some ⟨5, (B.getD i []).map bc, true⟩)] (hcp) rfl rfl (by exact trivial) rfl rfl rfl rfl rfl (by exact (.box rfl (Box.ren_bytes _ _ _ _) .nil)) .plain <| K.indexSlc rfl rfl (by omega) hix .plain ?_; refine K.storeOne rfl rfl rfl rfl hblt hput .plain <| RunK.nil <| And.intro (by kernel_rfl) ?_; refine LWP.region (by kernel_rfl) <| kad rfl rfl (wrap_i64 (by omega)) <| kmv rfl <| RunK.nil ?_)
    refine Leads.le (σ' := ⟨[(0, Lp 1000000), (3, Lp 3), (21, .sv (.one (.val v))), (22, Ln .i64 (B.length : Nat)), (23, Ln .i64 (i + 1 : Nat))], [(16, some ⟨51, cells2.map .val ++ .slc 32 0 (16 * size) :: (nilsV (B.length - (i + 1))).map .val, false⟩), (32, some ⟨5, (byV (B.getD i [])).map .val, true⟩), sB 3 size cap L.length (.slc 16 0 B.length), sB 1000000 size cap L.length (.val v)], joinM (joinM X H) H2⟩) ?_ ?_
    · rw [hv', byV_bc]
      exact Le.of (by exact ⟨rfl, rfl, rfl, rfl, rfl, trivial⟩) (by exact ⟨rfl, rfl, rfl, rfl, trivial⟩) (by exact rfl) (by exact rfl) (by repeat' (first | refine all_cons_true ?_ ?_ | rfl | exact bytes_inUse | exact vals_inUse | exact mid_inUse rfl))
    refine Leads.closeCell hO2 (by rw [byV_len, hbl]; omega) rfl vals_inUse vals_inUse rfl rfl rfl fun b1 o1 v1 g1 _ hO3 hv1 => Leads.done ⟨B.length - (i + 1), by omega, i + 1, cells2 ++ [v1], withBlock H2 b1 o1, by omega, rfl, hO3, ?_, ?_⟩
    · have G3 := (G2.snoc nilSlc []).shutAt (by rw [List.length_append]; simp) g1 hv1
      have e1 : (cells2 ++ [nilSlc]).set cells2.length v1 = cells2 ++ [v1] := by rw [List.set_append_right _ _ (Nat.le_refl _), Nat.sub_self]; rfl
      have e2 : ((B.take i).map byV ++ [([] : List Value)]).set cells2.length (byV (B.getD i [])) = (B.take (i + 1)).map byV := by
        rw [G2.len, List.set_append_right _ _ (Nat.le_refl _), Nat.sub_self, snoc (getD_at (d := []) hlt), List.map_append]; rfl
      rw [e1, e2] at G3
      exact G3
    · unfold clSt
      rw [← hv', List.append_assoc, List.map_append]; rfl
  · have e : i = B.length := by omega
    subst e
    (refine LWP.seq <| LWP.region (by kernel_rfl) <| klt rfl rfl (decide_eq_false (by omega)) <| RunK.nil <| LWP.seq <| LWP.condF rfl ?_; refine LWP.exit <| LWP.seq <| LWP.region (by kernel_rfl) <| kas rfl <| RunK.nil <| LWP.ret ?_)
    refine Leads.le (σ' := ⟨[(2, Lp 3)], [(3, some ⟨56, [.val (.int .i64 (size : Nat)), .val (.int .i64 (cap : Nat)), .val (.int .i64 (L.length : Nat))] ++ .slc 16 0 cells2.length :: [], false⟩), (16, some ⟨51, cells2.map .val, false⟩), sB 1000000 size cap L.length (.val v)], joinM (joinM X H) H2⟩) ?_ ?_
    · rw [Nat.sub_self, show nilsV 0 = [] from rfl, List.append_nil, hc2]
      exact Le.of (by exact ⟨rfl, trivial⟩) (by exact ⟨rfl, rfl, rfl, trivial⟩) (by exact rfl) (by exact rfl) (by repeat' (first | refine all_cons_true ?_ ?_ | rfl | exact bytes_inUse | exact vals_inUse | exact mid_inUse rfl))
    refine Leads.closeCell hO2 (by omega) rfl rfl rfl rfl rfl rfl fun d1 o2 v2 g1 _ hO4 hv2 => ?_
    rw [List.take_length] at G2
    refine col_shut hO4 (cells := cells2) (B := B) ⟨Grid.shut G2 g1 hv2, hI.pk⟩ ?_
    refine Leads.le (σ' := ⟨[(2, Lp 3)], [sB 1000000 size cap L.length (.val v), cB 3 size cap L], joinM X H⟩) ?_ ?_
    · exact Le.same ⟨fun _ => rfl, fun j => look_swap rfl, rfl⟩
    refine col_shut hO hI (Leads.done ?_)
    exact ⟨[(1000001, 3)], ⟨[_], ⟨rfl, trivial⟩, rfl⟩, (by repeat' (first | exact trivial | refine And.intro ⟨_, rfl, ?_⟩ ?_ | refine And.intro ⟨_, rfl⟩ ?_ | rfl | exact Box.ren_bytes _ _ _ _ | exact Box.ren_vals _ _ _ _ | exact Box.ren_mid rfl)), rfl, rfl⟩
end Go.Proofs.Ytdlilapjijpghaa
end
section
-- package column: what its callers know of it (its contracts stand in NC1 .. NC7)
namespace Go.Proofs.Ytdlilapjijpghaa
open Go Go.Lg Go.Lg.Col
end Go.Proofs.Ytdlilapjijpghaa
end
section
-- the law's answers by number
namespace Go.Proofs.Ytdlilapjijpghaa
open Go Go.Lg Go.Lg.Col
set_option maxRecDepth 100000
variable (X : Nat → Option Obj)
set_option maxHeartbeats 3200000 in
theorem cawake_spec : PSpec Try.prog X 6 [] (Lb true) := by
  have hN := cNew_ok X 2 3 (by omega) (by omega) (by omega)
  have hN2 := cNew_no X 257 1 (by omega)
  have hA := cAppend_ok X 2 3 [] [97, 97] (by decide)
  have hB := cAppend_ok X 2 3 [[97, 97]] [98, 98] (by decide)
  have hC := cAppend_ok X 2 3 [[97, 97], [98, 98]] [99, 99] (by decide)
  have hD := cAppend_no X 2 3 [[97, 97], [98, 98], [99, 99]] [100, 100] (e := 5) (by decide) (by decide) (by decide)
  have hE := cAppend_no X 2 3 [[97, 97], [98, 98], [99, 99]] [120] (e := 4) (by decide) (by decide) (by decide)
  have hS := cSwap_ok X 2 3 [[97, 97], [98, 98], [99, 99]] 0 (M := [[99, 99], [98, 98]]) (by decide) (by decide)
  have hG := cGet_ok X 2 3 [[99, 99], [98, 98]] 0 [99, 99] rfl
  have hL := cLen_spec X 2 3 [[99, 99], [98, 98]]
  have hK := cChunks_spec X 2 3 [[99, 99], [98, 98]]
  refine PSpec.intro Try.func6 rfl (by kernel_rfl) rfl rfl ?_
  intro C
  (refine LWP.seq <| LWP.region (by kernel_rfl) <| kas rfl <| RunK.nil <| LWP.seq <| LWP.region (by kernel_rfl) <| K.callMp [(1000001, 500)] (Lp 500) [cB 500 2 3 []] (hN) rfl rfl (by exact trivial) rfl rfl rfl rfl rfl (by exact (.box rfl rfl .nil)) .plain <| kas rfl <| RunK.nil <| LWP.seq <| LWP.region (by kernel_rfl) <| kmv rfl <| K.callM [(1000000, 500)] [cB 500 2 3 [[97, 97]]] (hA) rfl rfl (by exact (And.intro ⟨_, rfl, rfl⟩ trivial)) (by exact (all_cons_true rfl rfl)) rfl rfl rfl rfl (by exact (.box rfl rfl .nil)) .plain <| kas rfl ?_; refine RunK.nil <| LWP.seq <| LWP.region (by kernel_rfl) <| kmv rfl <| K.callM [(1000000, 500)] [cB 500 2 3 [[97, 97], [98, 98]]] (hB) rfl rfl (by exact (And.intro ⟨_, rfl, rfl⟩ trivial)) (by exact (all_cons_true rfl rfl)) rfl rfl rfl rfl (by exact (.box rfl rfl .nil)) .plain <| kas rfl <| RunK.nil <| LWP.seq <| LWP.region (by kernel_rfl) <| kmv rfl <| K.callM [(1000000, 500)] [cB 500 2 3 [[97, 97], [98, 98], [99, 99]]] (hC) rfl rfl (by exact (And.intro ⟨_, rfl, rfl⟩ trivial)) (by exact (all_cons_true rfl rfl)) rfl rfl rfl rfl (by exact (.box rfl rfl .nil)) .plain <| kas rfl <| RunK.nil <| LWP.seq ?_; refine LWP.region (by kernel_rfl) <| kmv rfl <| K.callR [(1000000, 500)] (hD) rfl rfl (by exact (And.intro ⟨_, rfl, rfl⟩ trivial)) (by exact (all_cons_true rfl rfl)) rfl rfl rfl rfl .plain <| kas rfl <| RunK.nil <| LWP.seq <| LWP.region (by kernel_rfl) <| kmv rfl <| K.callR [(1000000, 500)] (hE) rfl rfl (by exact (And.intro ⟨_, rfl, rfl⟩ trivial)) (by exact (all_cons_true rfl rfl)) rfl rfl rfl rfl .plain <| kas rfl <| RunK.nil <| LWP.seq <| LWP.region (by kernel_rfl) <| kmv rfl ?_; refine K.callM [(1000000, 500)] [cB 500 2 3 [[99, 99], [98, 98]]] (hS) rfl rfl (by exact (And.intro ⟨_, rfl, rfl⟩ trivial)) (by exact (all_cons_true rfl rfl)) rfl rfl rfl rfl (by exact (.box rfl rfl .nil)) .plain <| kmv rfl <| kex rfl rfl <| kex rfl rfl <| kas rfl <| kas rfl <| RunK.nil <| LWP.seq <| LWP.region (by kernel_rfl) <| kmv rfl <| K.callR [(1000000, 500)] (hG) rfl rfl (by exact (And.intro ⟨_, rfl, rfl⟩ trivial)) (by exact (all_cons_true rfl rfl)) rfl rfl rfl rfl .plain <| kmv rfl <| kex rfl rfl <| kex rfl rfl ?_; refine kas rfl <| kas rfl <| RunK.nil <| LWP.seq ?_)
  (refine LWP.region (by kernel_rfl) <| kmv rfl <| keq rfl rfl (beq_iff_eq.2 (by omega)) <| kmv rfl <| gmv rfl rfl rfl <| K.eql rfl rfl (beq_iff_eq.2 (by omega)) (.taken rfl rfl) ?_; refine kpt rfl rfl <| kmv rfl <| gmv rfl rfl rfl <| K.eql rfl rfl (beq_iff_eq.2 (by omega)) (.taken rfl rfl) ?_; refine kpt rfl rfl <| kmv rfl <| gmv rfl rfl rfl <| K.eql rfl rfl (beq_iff_eq.2 (by omega)) (.taken rfl rfl) ?_; refine kpt rfl rfl <| kmv rfl <| gmv rfl rfl rfl <| K.eql rfl rfl (beq_iff_eq.2 (by omega)) (.taken rfl rfl) ?_; refine kpt rfl rfl <| kmv rfl <| gmv rfl rfl rfl <| K.eql rfl rfl rfl (.taken rfl rfl) ?_; refine kpt rfl rfl <| kmv rfl <| gmv rfl rfl rfl <| K.eql rfl rfl (beq_iff_eq.2 (by omega)) (.taken rfl rfl) ?_; refine kpt rfl rfl <| kmv rfl <| gmv rfl rfl rfl <| K.eql rfl rfl (beq_iff_eq.2 (by omega)) (.taken rfl rfl) ?_; refine kpt rfl rfl <| kmv rfl <| gmv rfl rfl rfl <| K.strEq rfl rfl (strs_eq (r := true) (by decide)) (.taken rfl rfl) ?_; refine kpt rfl rfl <| kmv rfl <| gmv rfl rfl rfl <| K.callR [(1000000, 500)] (hL) rfl rfl (by exact (And.intro ⟨_, rfl, rfl⟩ trivial)) (by exact (all_cons_true rfl rfl)) rfl rfl rfl rfl (.taken rfl rfl) ?_; refine K.eql rfl rfl rfl (.taken rfl rfl) ?_; refine kpt rfl rfl <| kmv rfl <| gmv rfl rfl rfl <| K.callR [(1000000, 500)] (hK) rfl rfl (by exact (And.intro ⟨_, rfl, rfl⟩ trivial)) (by exact (all_cons_true rfl rfl)) rfl rfl rfl rfl (.taken rfl rfl) ?_; refine K.eql rfl rfl rfl (.taken rfl rfl) ?_; refine kpt rfl rfl <| kmv rfl <| gca rfl rfl hN2 rfl rfl <| K.nilNil rfl (by kernel_rfl) (.inl ⟨rfl, rfl⟩) (.taken rfl rfl) ?_; refine kpt rfl rfl <| kas rfl <| RunK.nil <| LWP.ret ?_)
  exact ⟨[_], ⟨rfl, trivial⟩, rfl⟩
end Go.Proofs.Ytdlilapjijpghaa
end
section
-- ColumnExact
namespace Go.Lg.Col
open Go Go.Lg Go.RowKit
structure Deed where
  kind : Int
  i : Int
  s : List UInt8
def Deed.vals (d : Deed) : List Value := [.int .i64 d.kind, .int .i64 d.i, strV d.s]
def DeedsIn (X : Nat → Option Obj) (ad : Option Addr) (ds : List Deed) : Prop := RowsIn X ad 3 (ds.map Deed.vals)
theorem DeedsIn.at {X : Nat → Option Obj} {ad : Option Addr} {ds : List Deed} (h : DeedsIn X ad ds) {i : Nat} {d : Deed} (hf : ds[i]? = some d) :
    ∃ (blk off : Nat) (arr : Array Value) (el : TypeId) (fr : Nat × Nat), ad = some ⟨blk, off, none⟩ ∧ X blk = some (.cells arr el fr) ∧ off + i * 3 + 3 ≤ arr.size ∧ ((arr.toList.drop (off + i * 3)).take 3).map CV.val = [.val (.int .i64 d.kind), .val (.int .i64 d.i), .val (strV d.s)] := by
  obtain ⟨blk, off, arr, el, fr, h1, h2, h3, h4⟩ := h i d.vals (by rw [List.getElem?_map, hf]; rfl)
  exact ⟨blk, off, arr, el, fr, h1, h2, h3, by rw [h4]; rfl⟩
theorem DeedsIn.more {X Y : Nat → Option Obj} (hXY : Ext X Y) {ad : Option Addr} {ds : List Deed} (h : DeedsIn X ad ds) : DeedsIn Y ad ds := RowsIn.mono h hXY
end Go.Lg.Col
namespace Go.Proofs.Ytdlilapjijpghaa
open Go Go.Lg Go.Lg.Col
set_option maxRecDepth 100000
variable (X : Nat → Option Obj)
/-- Rows, lent, beside rows that stay -/
theorem rows_lent {S : Nat → Option (Option Box)} {ad : Option Addr} {cp k : Nat} {A B : List (List UInt8)} {el : TypeId} {row : Bool} {r : Bool} (hB : OneIn X ad (txV B)) (hb : A.length < 4611686018427387904) (hb2 : B.length < 4611686018427387904) (hk : S k = some (some ⟨el, (txV A).map .val, row⟩)) (hr : (A == B) = r) :
    ∀ (Y : Nat → Option Obj) (us : List Value), (∀ b o, X b = some o → Y b = some o) → Lent S Y [.sv (.one (.slc k 0 A.length)), Tx ad B.length cp] us → PSpec Try.prog Y 21 (us.map toLV) (Lb r) := by
  intro Y us hY hL
  obtain ⟨u1, us1, rfl, h1, u2, us2, rfl, h2, rfl⟩ := hL
  have h2 : u2 = .slice ad B.length cp := h2
  subst h2
  obtain ⟨el', cells, row', hk', blk, cap2, arr, fr, us', sp, rfl, hYb, hc, hfit, harr, hv⟩ := h1
  rw [hk] at hk'
  simp only [Option.some.injEq, Box.mk.injEq] at hk'
  obtain ⟨rfl, rfl, rfl⟩ := hk'
  have := hv (txV A) rfl
  subst this
  subst hr
  exact rows_spec Y (some ⟨blk, 0, none⟩) ad cap2 cp A B (one_in hYb ⟨sp, harr⟩) (more hY hB) hb hb2
/-- between two deeds -/
abbrev exSt (z q : Nat) (ada : Option Addr) (n capa i : Nat) (L : List (List UInt8)) (ad : Option Addr) (cp : Nat) (Y : Nat → Option Obj) : St :=
  ⟨[(0, Ln .i64 (z : Nat)), (1, Ln .i64 (q : Nat)), (2, Tx ada n capa), (7, Lp 500), (12, Lp 97), (13, Ln .i64 (i : Nat))], [cB 500 z q L, uB 97 (z : Nat) (q : Nat) (uC ad L.length cp)], Y⟩
set_option maxHeartbeats 6400000 in
theorem ColumnExact_no (size most : Int) (ada : Option Addr) (n capa : Nat) (h : size < 0 ∨ 256 < size ∨ most < 1 ∨ 65536 < most) : PSpec Try.prog X 3 [Ln .i64 size, Ln .i64 most, Tx ada n capa] (Lb true) := by
  have hW := cawake_spec X
  have hN := cNew_no X size most h
  have g1 := cGet_nil X 0
  have g2 := cSwap_nil X 0
  have g3 := cAppend_nil X []
  have g4 := cSet_nil X 0 []
  have g5 := cLen_nil X
  have g6 := cSize_nil X
  have g7 := cCap_nil X
  have g8 := cChunks_nil X
  have g9 := cRows_nil X
  have g10 := cClone_nil X
  refine PSpec.intro Try.func3 rfl (by kernel_rfl) rfl rfl ?_
  intro C
  (refine LWP.seq <| LWP.region (by kernel_rfl) <| kas rfl <| RunK.nil <| LWP.seq <| LWP.seq <| LWP.region (by kernel_rfl) <| kca rfl rfl (hW) <| K.not rfl rfl .plain <| RunK.nil <| LWP.condF rfl ?_; refine LWP.skip ?_; refine LWP.seq <| LWP.region (by kernel_rfl) <| kmv rfl <| kmv rfl <| kca rfl rfl (hN) <| kas rfl <| RunK.nil <| LWP.seq <| LWP.seq ?_)
  refine LWP.meet0 (fun σ => σ = ⟨[(7, L0), (40, Lb true)], [], X⟩) ?_ ?_
  · by_cases h1 : size < 0
    · (refine LWP.region (by kernel_rfl) <| kmv rfl <| klt rfl rfl (decide_eq_true h1) <| kmv rfl <| RunK.passed rfl rfl rfl <| RunK.passed rfl rfl rfl <| kpt rfl rfl <| kmv rfl <| RunK.passed rfl rfl rfl <| RunK.passed rfl rfl rfl <| kpt rfl rfl <| kmv rfl <| RunK.passed rfl rfl rfl <| RunK.passed rfl rfl rfl ?_; refine kpt rfl rfl <| RunK.nil ?_)
      exact ⟨_, Le.of (by exact ⟨rfl, rfl, trivial⟩) (by exact trivial) (by exact rfl) (by exact rfl) (by exact rfl), rfl⟩
    · by_cases h2 : 256 < size
      · (refine LWP.region (by kernel_rfl) <| kmv rfl <| klt rfl rfl (decide_eq_false h1) <| kmv rfl <| gmv rfl rfl rfl <| K.gtr rfl rfl (decide_eq_true h2) (.taken rfl rfl) ?_; refine kpf rfl rfl <| kmv rfl <| RunK.passed rfl rfl rfl <| RunK.passed rfl rfl rfl <| kpt rfl rfl <| kmv rfl <| RunK.passed rfl rfl rfl <| RunK.passed rfl rfl rfl <| kpt rfl rfl <| RunK.nil ?_)
        exact ⟨_, Le.of (by exact ⟨rfl, rfl, trivial⟩) (by exact trivial) (by exact rfl) (by exact rfl) (by exact rfl), rfl⟩
      · by_cases h3 : most < 1
        · (refine LWP.region (by kernel_rfl) <| kmv rfl <| klt rfl rfl (decide_eq_false h1) <| kmv rfl <| gmv rfl rfl rfl <| K.gtr rfl rfl (decide_eq_false h2) (.taken rfl rfl) ?_; refine kpf rfl rfl <| kmv rfl <| gmv rfl rfl rfl <| K.lss rfl rfl (decide_eq_true h3) (.taken rfl rfl) ?_; refine kpf rfl rfl <| kmv rfl <| RunK.passed rfl rfl rfl <| RunK.passed rfl rfl rfl <| kpt rfl rfl <| RunK.nil ?_)
          exact ⟨_, Le.of (by exact ⟨rfl, rfl, trivial⟩) (by exact trivial) (by exact rfl) (by exact rfl) (by exact rfl), rfl⟩
        · (refine LWP.region (by kernel_rfl) <| kmv rfl <| klt rfl rfl (decide_eq_false h1) <| kmv rfl <| gmv rfl rfl rfl <| K.gtr rfl rfl (decide_eq_false h2) (.taken rfl rfl) ?_; refine kpf rfl rfl <| kmv rfl <| gmv rfl rfl rfl <| K.lss rfl rfl (decide_eq_false h3) (.taken rfl rfl) ?_; refine kpf rfl rfl <| kmv rfl <| gmv rfl rfl rfl <| K.gtr rfl rfl (decide_eq_true (by omega)) (.taken rfl rfl) ?_; refine kpf rfl rfl <| RunK.nil ?_)
          exact ⟨_, Le.of (by exact ⟨rfl, rfl, trivial⟩) (by exact trivial) (by exact rfl) (by exact rfl) (by exact rfl), rfl⟩
  rintro σ rfl
  (refine LWP.condT rfl ?_; refine LWP.seq <| LWP.region (by kernel_rfl) <| kmv rfl <| kca rfl rfl (g1) <| kmv rfl <| kex rfl rfl <| kex rfl rfl <| kas rfl <| kas rfl <| RunK.nil <| LWP.seq <| LWP.region (by kernel_rfl) <| kmv rfl <| kca rfl rfl (g2) ?_; refine kmv rfl <| kex rfl rfl <| kex rfl rfl <| kas rfl <| kas rfl <| RunK.nil <| LWP.seq <| LWP.region (by kernel_rfl) <| kmv rfl <| K.nilNil rfl (by kernel_rfl) (.inl ⟨rfl, rfl⟩) .plain <| kmv rfl <| gmv rfl rfl rfl <| gca rfl rfl (g3) rfl rfl <| K.eql rfl rfl (beq_iff_eq.2 (by omega)) (.taken rfl rfl) ?_; refine kpt rfl rfl <| kmv rfl <| gmv rfl rfl rfl <| K.eql rfl rfl (beq_iff_eq.2 (by omega)) (.taken rfl rfl) ?_; refine kpt rfl rfl <| kmv rfl <| gmv rfl rfl rfl <| K.eql rfl rfl (beq_iff_eq.2 (by omega)) (.taken rfl rfl) ?_; refine kpt rfl rfl <| kmv rfl <| gmv rfl rfl rfl <| gca rfl rfl (g4) rfl rfl <| K.eql rfl rfl (beq_iff_eq.2 (by omega)) (.taken rfl rfl) ?_; refine kpt rfl rfl <| kmv rfl <| gmv rfl rfl rfl <| gca rfl rfl (g5) rfl rfl <| gmv rfl rfl rfl <| gca rfl rfl (g6) rfl rfl <| K.add rfl rfl (wrap_i64 (by omega)) (.taken rfl rfl) ?_; refine gmv rfl rfl rfl <| gca rfl rfl (g7) rfl rfl <| K.add rfl rfl (wrap_i64 (by omega)) (.taken rfl rfl) ?_; refine gmv rfl rfl rfl <| gca rfl rfl (g8) rfl rfl <| K.add rfl rfl (wrap_i64 (by omega)) (.taken rfl rfl) ?_; refine gmv rfl rfl rfl <| K.callMp [(1000001, 84)] (.sv (.one (.slc 84 0 0))) [rwB 84 []] (g9) rfl rfl (by exact trivial) rfl rfl rfl rfl rfl (by exact (.box rfl rfl .nil)) (.taken rfl rfl) ?_; refine K.lenSlc rfl SliceT.h rfl (.taken rfl rfl) ?_; refine K.add rfl rfl (wrap_i64 (by omega)) (.taken rfl rfl) ?_; refine K.eql rfl rfl (beq_iff_eq.2 (by omega)) (.taken rfl rfl) ?_; refine kpt rfl rfl <| kmv rfl <| gmv rfl rfl rfl <| gca rfl rfl (g10) rfl rfl <| K.nilNil rfl (by kernel_rfl) (.inl ⟨rfl, rfl⟩) (.taken rfl rfl) ?_; refine kpt rfl rfl <| kas rfl <| RunK.nil <| LWP.ret ?_)
  exact ⟨[_], ⟨rfl, trivial⟩, rfl⟩
end Go.Proofs.Ytdlilapjijpghaa
end
section
-- deeds that are handed in
namespace Go.Proofs.Ytdlilapjijpghaa
open Go Go.Lg Go.Lg.Col Go.RowKit Go.ChangeShapes Go.WideShapes Go.Joins
set_option maxRecDepth 100000
section
variable {H : Type} {enc : TypeId × Value → H} {w : World}
theorem open_deeds {r : Reach} {b0 : Nat} {v : Value} {d : DataW H} {p : List MemPlace} (hv : Value.okWide Try.prog w r b0 22 v) (h : DataW.Trod enc Try.prog w 0 (fun _ => true) true 22 v d p) :
    ∃ (ad : Option Addr) (cap : Nat) (ds : List Deed), v = .slice ad ds.length cap ∧ DeedsIn (fun b => w.heap[b]?) ad ds := by
  obtain ⟨ad, cap, rows, rfl, h1, h2, h3, h4, hsz⟩ := open_rows (e := 41) (sz := 3) (by kernel_rfl) (by kernel_rfl) (by decide) hv h
  obtain ⟨ds, rfl, h5⟩ := map_of (f := Deed.vals) (q := fun _ => True) (vs := rows) (fun u hu => by
    obtain ⟨hlen, n, x, hx⟩ := h4 u hu
    obtain ⟨y0, y1, y2, n', _, _, g0, g1, g2⟩ := Deep.trod_struct3 (t := 41) Try.underlying41 hx
    obtain ⟨c0, c1, c2, rfl⟩ : ∃ c0 c1 c2, u = [c0, c1, c2] := by
      match u, hlen with
      | [c0, c1, c2], _ => exact ⟨c0, c1, c2, rfl⟩
    obtain ⟨k, e0, _, w1⟩ := DataW.trod_int (k := .i64) (by kernel_rfl) g0
    obtain ⟨c, e1, _, w2⟩ := DataW.trod_int (k := .i64) (by kernel_rfl) g1
    obtain ⟨s, e2, _, _⟩ := DataW.trod_string (by kernel_rfl) g2
    have q0 : c0 = .int .i64 k := by simpa using (show ([c0, c1, c2].drop 0).take 1 = [.int .i64 k] from e0)
    have q1 : c1 = .int .i64 c := by simpa using (show ([c0, c1, c2].drop 1).take 1 = [.int .i64 c] from e1)
    have q2 : c2 = .string s := by simpa using (show ([c0, c1, c2].drop 2).take 1 = [.string s] from e2)
    subst q0 q1 q2
    exact ⟨⟨k, c, s.data.toList⟩, rfl, trivial⟩)
  exact ⟨ad, cap, ds, by rw [List.length_map], h3⟩
end
end Go.Proofs.Ytdlilapjijpghaa
end
section
-- ColumnExact, of what can be a column
namespace Go.Proofs.Ytdlilapjijpghaa
open Go Go.Lg Go.Lg.Col
set_option maxRecDepth 100000
variable (X : Nat → Option Obj)
theorem cSwap_any (size cap : Nat) (L : List (List UInt8)) (i : Int) : ∃ (M : List (List UInt8)) (a b : Int), MSpec Try.prog X 9 [Lp 1000000, Ln .i64 i] [cB 1000000 size cap L] (.tup [Sn .i64 a, Sn .i64 b]) [cB 1000000 size cap M] := by
  by_cases h : i < 0 ∨ (L.length : Int) ≤ i
  · exact ⟨_, _, _, cSwap_no X size cap L i h⟩
  · obtain ⟨j, rfl⟩ : ∃ j : Nat, i = j := ⟨i.toNat, by omega⟩
    exact ⟨_, _, _, cSwap_ok X size cap L j (by omega) rfl⟩
theorem cAppend_any (size cap : Nat) (L : List (List UInt8)) (row : List UInt8) (hb : row.length < 4294967296) : ∃ (M : List (List UInt8)) (e : Int), MSpec Try.prog X 10 [Lp 1000000, Ls row] [cB 1000000 size cap L] (Ln .i64 e) [cB 1000000 size cap M] := by
  by_cases h : appE size cap L.length row = 0
  · exact ⟨_, _, cAppend_ok X size cap L row h⟩
  · exact ⟨_, _, cAppend_no X size cap L row rfl h hb⟩
theorem cSet_any (size cap : Nat) (L : List (List UInt8)) (i : Int) (row : List UInt8) : ∃ (M : List (List UInt8)) (e : Int), MSpec Try.prog X 11 [Lp 1000000, Ln .i64 i, Ls row] [cB 1000000 size cap L] (Ln .i64 e) [cB 1000000 size cap M] := by
  by_cases h : setE size L.length i row = 0
  · obtain ⟨h1, j, rfl, h2⟩ := setE_ok h
    exact ⟨_, _, cSet_ok X size cap L j row h2 h1⟩
  · exact ⟨_, _, cSet_no X size cap L i row rfl h⟩
theorem uAppend_no (size cap : Nat) (ad : Option Addr) (n cp : Nat) (row : List UInt8) {e : Int} (h : appE size cap n row = e) (h0 : e ≠ 0) : MSpec Try.prog X 18 [Lp 1000000, Ls row] [uB 1000000 (size : Nat) (cap : Nat) (uC ad n cp)] (Ln .i64 e) [uB 1000000 (size : Nat) (cap : Nat) (uC ad n cp)] := by
  subst h
  unfold appE at h0 ⊢
  by_cases h1 : row.length ≠ size
  · rw [if_pos h1]; exact uAppend_form X _ _ ad n cp row (by omega)
  · rw [if_neg h1] at h0 ⊢
    by_cases h2 : cap ≤ n
    · rw [if_pos h2]; exact uAppend_full X _ _ ad n cp row (by omega) (by omega)
    · rw [if_neg h2] at h0; exact absurd rfl h0
theorem uSet_no (size cap : Nat) (ad : Option Addr) (n cp : Nat) (i : Int) (row : List UInt8) {e : Int} (h : setE size n i row = e) (h0 : e ≠ 0) : MSpec Try.prog X 19 [Lp 1000000, Ln .i64 i, Ls row] [uB 1000000 (size : Nat) (cap : Nat) (uC ad n cp)] (Ln .i64 e) [uB 1000000 (size : Nat) (cap : Nat) (uC ad n cp)] := by
  subst h
  unfold setE at h0 ⊢
  by_cases h1 : i < 0 ∨ (n : Int) ≤ i
  · rw [if_pos h1]; exact uSet_range X _ _ ad n cp i row h1
  · rw [if_neg h1] at h0 ⊢
    by_cases h2 : row.length ≠ size
    · rw [if_pos h2]
      obtain ⟨j, rfl⟩ : ∃ j : Nat, i = j := ⟨i.toNat, by omega⟩
      exact uSet_form X _ _ ad n cp j row (by omega) (by omega)
    · rw [if_neg h2] at h0; exact absurd rfl h0
set_option maxHeartbeats 12800000 in
theorem ColumnExact_yes (z q : Nat) (hz : z ≤ 256) (hq1 : 1 ≤ q) (hq : q ≤ 65536) (ada : Option Addr) (capa : Nat) (ds : List Deed) (hin : DeedsIn X ada ds) : PSpec Try.prog X 3 [Ln .i64 (z : Nat), Ln .i64 (q : Nat), Tx ada ds.length capa] (Lb true) := by
  have hW := cawake_spec X
  have hN := cNew_ok X z q hz hq1 hq
  refine PSpec.intro Try.func3 rfl (by kernel_rfl) rfl rfl ?_
  intro C
  (refine LWP.seq <| LWP.region (by kernel_rfl) <| kas rfl <| RunK.nil <| LWP.seq <| LWP.seq <| LWP.region (by kernel_rfl) <| kca rfl rfl (hW) <| K.not rfl rfl .plain <| RunK.nil <| LWP.condF rfl ?_; refine LWP.skip ?_; refine LWP.seq <| LWP.region (by kernel_rfl) <| kmv rfl <| kmv rfl <| K.callMp [(1000001, 500)] (Lp 500) [cB 500 z q []] (hN) rfl rfl (by exact trivial) rfl rfl rfl rfl rfl (by exact (.box rfl rfl .nil)) .plain <| kas rfl <| RunK.nil <| LWP.seq <| LWP.seq <| LWP.region (by kernel_rfl) <| kmv rfl <| klt rfl rfl (decide_eq_false (by omega)) <| kmv rfl <| gmv rfl rfl rfl ?_; refine K.gtr rfl rfl (decide_eq_false (by omega)) (.taken rfl rfl) ?_; refine kpf rfl rfl <| kmv rfl <| gmv rfl rfl rfl <| K.lss rfl rfl (decide_eq_false (by omega)) (.taken rfl rfl) ?_; refine kpf rfl rfl <| kmv rfl <| gmv rfl rfl rfl <| K.gtr rfl rfl (decide_eq_false (by omega)) (.taken rfl rfl) ?_; refine kpf rfl rfl <| RunK.nil <| LWP.condF rfl ?_; refine LWP.skip ?_; refine LWP.seq <| LWP.region (by kernel_rfl) <| kmv rfl <| kmv rfl <| K.build rfl rfl (by exact rfl) (by exact nl3 rfl rfl rfl rfl) .plain ?_; refine K.box rfl rfl rfl .plain <| kas rfl <| RunK.nil <| LWP.seq <| LWP.seq <| LWP.region (by kernel_rfl) <| kas rfl <| RunK.nil <| LWP.block ?_)
  refine LWP.loop (fun m σ => ∃ (i : Nat) (L : List (List UInt8)) (ln : Nat) (ad : Option Addr) (cp : Nat) (Y : Nat → Option Obj), ln = L.length ∧ i ≤ ds.length ∧ i ≤ 120 ∧ L.length ≤ i ∧ m = ds.length - i ∧ Ext X Y ∧ OneIn Y ad (txV L) ∧ σ = ⟨[(0, Ln .i64 (z : Nat)), (1, Ln .i64 (q : Nat)), (2, Tx ada ds.length capa), (7, Lp 500), (12, Lp 97), (13, Ln .i64 (i : Nat))], [cB 500 z q L, uB 97 (z : Nat) (q : Nat) (uC ad ln cp)], Y⟩) ds.length
    ⟨_, Le.of (by exact ⟨rfl, rfl, rfl, rfl, rfl, rfl, trivial⟩) (by exact ⟨rfl, rfl, trivial⟩) (by exact rfl) (by exact rfl) (by repeat' (first | refine all_cons_true ?_ ?_ | rfl | exact bytes_inUse | exact vals_inUse | exact mid_inUse rfl)), 0, [], 0, none, 0, X, rfl, by omega, by omega, by simp, by omega, fun _ _ h => h, fun _ _ h => by simp [txV] at h, rfl⟩ ?_
  rintro m σ ⟨i, L, _, ad, cp, Y, rfl, hi, hi2, hLi, rfl, hXY, hS, rfl⟩
  by_cases hlt : ¬ i < ds.length
  · (refine LWP.seq <| LWP.seq <| LWP.region (by kernel_rfl) <| kmv rfl <| kmv rfl <| K.lenX rfl SliceT.h rfl .plain ?_; refine klt rfl rfl (decide_eq_false (by omega)) <| kmv rfl <| RunK.passed rfl rfl rfl <| RunK.passed rfl rfl rfl <| kpf rfl rfl <| RunK.nil <| LWP.condF rfl ?_; refine LWP.exit <| LWP.seq <| LWP.region (by kernel_rfl) <| kas rfl <| RunK.nil <| LWP.ret ?_)
    exact ⟨[_], ⟨rfl, trivial⟩, rfl⟩
  replace hlt := Decidable.not_not.1 hlt
  by_cases hlt2 : ¬ i < 120
  · (refine LWP.seq <| LWP.seq <| LWP.region (by kernel_rfl) <| kmv rfl <| kmv rfl <| K.lenX rfl SliceT.h rfl .plain ?_; refine klt rfl rfl (decide_eq_true (by omega)) <| kmv rfl <| gmv rfl rfl rfl <| K.lss rfl rfl (decide_eq_false (by omega)) (.taken rfl rfl) ?_; refine kpt rfl rfl <| RunK.nil <| LWP.condF rfl ?_; refine LWP.exit <| LWP.seq <| LWP.region (by kernel_rfl) <| kas rfl <| RunK.nil <| LWP.ret ?_)
    exact ⟨[_], ⟨rfl, trivial⟩, rfl⟩
  replace hlt2 := Decidable.not_not.1 hlt2
  obtain ⟨d, hd⟩ : ∃ d, ds[i]? = some d := ⟨_, List.getElem?_eq_getElem hlt⟩
  obtain ⟨blk, off, arr, el, fr, rfl, hX, hsz, hcells⟩ := (hin.more hXY).at hd
  have hio : off + Int.toNat (i : Int) * 3 = off + i * 3 := by simp
  generalize d.kind = kd at *
  generalize d.i = ii at *
  generalize d.s = s at *
  by_cases h300 : 300 < s.length
  · (refine LWP.seq <| LWP.seq <| LWP.region (by kernel_rfl) <| kmv rfl <| kmv rfl <| K.lenX rfl SliceT.h rfl .plain ?_; refine klt rfl rfl (decide_eq_true (by omega)) <| kmv rfl <| gmv rfl rfl rfl <| K.lss rfl rfl (decide_eq_true (by omega)) (.taken rfl rfl) ?_; refine kpt rfl rfl <| RunK.nil <| LWP.condT rfl ?_; refine LWP.skip ?_; refine LWP.seq <| LWP.block <| LWP.seq <| LWP.region (by kernel_rfl) <| kmv rfl <| kmv rfl <| K.indexX rfl rfl SliceT.h (by omega) hio .plain <| K.loadXagg rfl hX (by kernel_rfl) hsz hcells .plain <| K.alloc rfl .plain ?_; refine K.storeAll rfl rfl rfl rfl rfl rfl .plain ?_; refine RunK.nil <| LWP.seq <| LWP.seq <| LWP.region (by kernel_rfl) <| kfa rfl rfl ?_; refine kl1 rfl rfl rfl <| kln rfl <| K.gtr rfl rfl (decide_eq_true (by show (300 : Int) < (s.length : Nat); omega)) .plain <| RunK.nil <| LWP.condT rfl ?_; refine LWP.seq <| LWP.region (by kernel_rfl) <| kas rfl <| RunK.nil <| LWP.ret ?_)
    exact ⟨[_], ⟨rfl, trivial⟩, rfl⟩
  (refine LWP.seq <| LWP.seq <| LWP.region (by kernel_rfl) <| kmv rfl <| kmv rfl <| K.lenX rfl SliceT.h rfl .plain ?_; refine klt rfl rfl (decide_eq_true (by omega)) <| kmv rfl <| gmv rfl rfl rfl <| K.lss rfl rfl (decide_eq_true (by omega)) (.taken rfl rfl) ?_; refine kpt rfl rfl <| RunK.nil <| LWP.condT rfl ?_; refine LWP.skip ?_; refine LWP.seq <| LWP.block <| LWP.seq <| LWP.region (by kernel_rfl) <| kmv rfl <| kmv rfl <| K.indexX rfl rfl SliceT.h (by omega) hio .plain <| K.loadXagg rfl hX (by kernel_rfl) hsz hcells .plain <| K.alloc rfl .plain ?_; refine K.storeAll rfl rfl rfl rfl rfl rfl .plain ?_; refine RunK.nil <| LWP.seq <| LWP.seq <| LWP.region (by kernel_rfl) <| kfa rfl rfl ?_; refine kl1 rfl rfl rfl <| kln rfl <| K.gtr rfl rfl (decide_eq_false (by show ¬ (300 : Int) < (s.length : Nat); omega)) .plain <| RunK.nil <| LWP.condF rfl ?_; refine LWP.skip ?_; refine LWP.seq <| LWP.seq ?_)
  generalize hada : (some (⟨blk, off, none⟩ : Addr)) = ada at *
  refine LWP.cutL (fun σ => ∃ (M : List (List UInt8)) (ln : Nat) (ad' : Option Addr) (cp' : Nat) (Z : Nat → Option Obj), ln = M.length ∧ M.length ≤ i + 1 ∧ Ext Y Z ∧ OneIn Z ad' (txV M) ∧ σ = ⟨[(0, Ln .i64 (z : Nat)), (1, Ln .i64 (q : Nat)), (2, Tx ada ds.length capa), (7, Lp 500), (12, Lp 97), (13, Ln .i64 (i : Nat))], [cB 500 z q M, uB 97 (z : Nat) (q : Nat) (uC ad' ln cp')], Z⟩) ?_ ?_
  · have hcase : kd = 1 ∨ kd = 2 ∨ kd = 3 ∨ kd = 4 ∨ kd = 5 ∨ kd = 6 ∨ kd = 7 ∨ kd = 8 ∨ (kd ≠ 1 ∧ kd ≠ 2 ∧ kd ≠ 3 ∧ kd ≠ 4 ∧ kd ≠ 5 ∧ kd ≠ 6 ∧ kd ≠ 7 ∧ kd ≠ 8) := by omega
    rcases hcase with hk | hk | hk | hk | hk | hk | hk | hk | hk
    · subst hk
      by_cases he : appE z q L.length s = 0
      · obtain ⟨hs1, hs2⟩ := appE_ok he
        have hc := cAppend_ok Y z q L s he
        have hu := uAppend_ok Y (z : Nat) (q : Nat) ad cp L s hS (by omega) (by omega) (by omega)
        (refine LWP.region (by kernel_rfl) <| kfa rfl rfl ?_; refine kl1 rfl rfl rfl <| RunK.nil <| LWP.block <| LWP.seq <| LWP.seq <| LWP.region (by kernel_rfl) <| keq rfl rfl (beq_iff_eq.2 (by omega)) <| kas rfl <| RunK.nil <| LWP.condT rfl ?_; refine LWP.skip ?_; refine LWP.condT rfl ?_; refine LWP.seq <| LWP.draws mixed (by kernel_rfl) <| kmv rfl <| kfa rfl rfl ?_; refine kl1 rfl rfl rfl <| K.callM [(1000000, 500)] [cB 500 z q (L ++ [s])] (hc) rfl rfl (by exact (And.intro ⟨_, rfl, rfl⟩ trivial)) (by exact (all_cons_true rfl rfl)) rfl rfl rfl rfl (by exact (.box rfl rfl .nil)) .plain <| kmv rfl <| kfa rfl rfl ?_; refine kl1 rfl rfl rfl <| K.callM [(1000000, 97), (1000001, 501)] [uB 97 (z : Nat) (q : Nat) (.slc 501 0 (L.length + 1)), (501, some ⟨9, (txV (L ++ [s])).map .val, true⟩)] (hu) rfl rfl (by exact (And.intro ⟨_, rfl, rfl⟩ trivial)) (by exact (all_cons_true (all_cons_true rfl (all_cons_true rfl (all_cons_true rfl rfl))) rfl)) rfl rfl rfl rfl (by exact (.box rfl rfl (.box rfl (Box.ren_vals _ _ _ _) .nil))) .plain <| kne rfl rfl ((bne_eq_false_iff_eq.2 (by omega))) <| RunK.nil <| And.intro (by kernel_rfl) ?_; refine LWP.condF rfl ?_; refine LWP.skip ?_)
        refine Leads.le (σ' := ⟨[(0, Ln .i64 (z : Nat)), (1, Ln .i64 (q : Nat)), (2, Tx ada ds.length capa), (7, Lp 500), (12, Lp 97), (13, Ln .i64 (i : Nat))], [(97, some ⟨39, [.val (.int .i64 (z : Nat)), .val (.int .i64 (q : Nat))] ++ .slc 501 0 (L.length + 1) :: [], false⟩), (501, some ⟨9, (txV (L ++ [s])).map .val, true⟩), cB 500 z q (L ++ [s])], Y⟩) (Le.of (by exact ⟨rfl, rfl, rfl, rfl, rfl, rfl, trivial⟩) (by exact ⟨rfl, rfl, rfl, trivial⟩) (by exact rfl) (by exact rfl) (by repeat' (first | refine all_cons_true ?_ ?_ | rfl | exact bytes_inUse | exact vals_inUse | exact mid_inUse rfl))) ?_
        refine Leads.freezeCell rfl rfl rfl rfl rfl rfl ?_
        intro b1 c1 a1 f1 n1 z1 g1 g2 sp1
        exact Leads.here (Le.of (by exact ⟨rfl, rfl, rfl, rfl, rfl, rfl, trivial⟩) (by exact ⟨rfl, rfl, trivial⟩) (by exact rfl) (by exact rfl) (by repeat' (first | refine all_cons_true ?_ ?_ | rfl | exact bytes_inUse | exact vals_inUse | exact mid_inUse rfl))) ⟨(L ++ [s]), (L.length + 1), some ⟨b1, 0, none⟩, c1, _, by rw [List.length_append]; rfl, by rw [List.length_append]; simp; omega, fun b o h => withBlock_old n1 b o h, one_in (withBlock_at _ _ _) sp1, rfl⟩
      · have hc := cAppend_no Y z q L s rfl he (by omega)
        have hu := uAppend_no Y z q ad L.length cp s rfl he
        generalize appE z q L.length s = e at *
        (refine LWP.region (by kernel_rfl) <| kfa rfl rfl ?_; refine kl1 rfl rfl rfl <| RunK.nil <| LWP.block <| LWP.seq <| LWP.seq <| LWP.region (by kernel_rfl) <| keq rfl rfl (beq_iff_eq.2 (by omega)) <| kas rfl <| RunK.nil <| LWP.condT rfl ?_; refine LWP.skip ?_; refine LWP.condT rfl ?_; refine LWP.seq <| LWP.draws mixed (by kernel_rfl) <| kmv rfl <| kfa rfl rfl ?_; refine kl1 rfl rfl rfl <| K.callR [(1000000, 500)] (hc) rfl rfl (by exact (And.intro ⟨_, rfl, rfl⟩ trivial)) (by exact (all_cons_true rfl rfl)) rfl rfl rfl rfl .plain <| kmv rfl <| kfa rfl rfl ?_; refine kl1 rfl rfl rfl <| K.callR [(1000000, 97)] (hu) rfl rfl (by exact (And.intro ⟨_, rfl, rfl⟩ trivial)) (by exact (all_cons_true (all_cons_true rfl (all_cons_true rfl (all_cons_true rfl rfl))) rfl)) rfl rfl rfl rfl .plain <| kne rfl rfl (r := false) (by simp) <| RunK.nil <| And.intro (by kernel_rfl) ?_; refine LWP.condF rfl ?_; refine LWP.skip ?_)
        exact Leads.here (Le.of (by exact ⟨rfl, rfl, rfl, rfl, rfl, rfl, trivial⟩) (by exact ⟨rfl, rfl, trivial⟩) (by exact rfl) (by exact rfl) (by repeat' (first | refine all_cons_true ?_ ?_ | rfl | exact bytes_inUse | exact vals_inUse | exact mid_inUse rfl))) ⟨L, L.length, ad, cp, Y, rfl, by omega, fun _ _ h => h, hS, rfl⟩
    · subst hk
      by_cases he : appE z q L.length s = 0
      · obtain ⟨hs1, hs2⟩ := appE_ok he
        have hc := cAppend_ok Y z q L s he
        have hu := uAppend_ok Y (z : Nat) (q : Nat) ad cp L s hS (by omega) (by omega) (by omega)
        (refine LWP.region (by kernel_rfl) <| kfa rfl rfl ?_; refine kl1 rfl rfl rfl <| RunK.nil <| LWP.block <| LWP.seq <| LWP.seq <| LWP.region (by kernel_rfl) <| keq rfl rfl (beq_eq_false_iff_ne.2 (by omega)) <| kas rfl <| RunK.nil <| LWP.condF rfl ?_; refine LWP.seq <| LWP.region (by kernel_rfl) <| keq rfl rfl (beq_iff_eq.2 (by omega)) <| kas rfl <| RunK.nil <| LWP.condT rfl ?_; refine LWP.skip ?_; refine LWP.condT rfl ?_; refine LWP.seq <| LWP.draws mixed (by kernel_rfl) <| kmv rfl <| kfa rfl rfl ?_; refine kl1 rfl rfl rfl <| K.callM [(1000000, 500)] [cB 500 z q (L ++ [s])] (hc) rfl rfl (by exact (And.intro ⟨_, rfl, rfl⟩ trivial)) (by exact (all_cons_true rfl rfl)) rfl rfl rfl rfl (by exact (.box rfl rfl .nil)) .plain <| kmv rfl <| kfa rfl rfl ?_; refine kl1 rfl rfl rfl <| K.callM [(1000000, 97), (1000001, 501)] [uB 97 (z : Nat) (q : Nat) (.slc 501 0 (L.length + 1)), (501, some ⟨9, (txV (L ++ [s])).map .val, true⟩)] (hu) rfl rfl (by exact (And.intro ⟨_, rfl, rfl⟩ trivial)) (by exact (all_cons_true (all_cons_true rfl (all_cons_true rfl (all_cons_true rfl rfl))) rfl)) rfl rfl rfl rfl (by exact (.box rfl rfl (.box rfl (Box.ren_vals _ _ _ _) .nil))) .plain <| kne rfl rfl ((bne_eq_false_iff_eq.2 (by omega))) <| RunK.nil <| And.intro (by kernel_rfl) ?_; refine LWP.condF rfl ?_; refine LWP.skip ?_)
        refine Leads.le (σ' := ⟨[(0, Ln .i64 (z : Nat)), (1, Ln .i64 (q : Nat)), (2, Tx ada ds.length capa), (7, Lp 500), (12, Lp 97), (13, Ln .i64 (i : Nat))], [(97, some ⟨39, [.val (.int .i64 (z : Nat)), .val (.int .i64 (q : Nat))] ++ .slc 501 0 (L.length + 1) :: [], false⟩), (501, some ⟨9, (txV (L ++ [s])).map .val, true⟩), cB 500 z q (L ++ [s])], Y⟩) (Le.of (by exact ⟨rfl, rfl, rfl, rfl, rfl, rfl, trivial⟩) (by exact ⟨rfl, rfl, rfl, trivial⟩) (by exact rfl) (by exact rfl) (by repeat' (first | refine all_cons_true ?_ ?_ | rfl | exact bytes_inUse | exact vals_inUse | exact mid_inUse rfl))) ?_
        refine Leads.freezeCell rfl rfl rfl rfl rfl rfl ?_
        intro b1 c1 a1 f1 n1 z1 g1 g2 sp1
        exact Leads.here (Le.of (by exact ⟨rfl, rfl, rfl, rfl, rfl, rfl, trivial⟩) (by exact ⟨rfl, rfl, trivial⟩) (by exact rfl) (by exact rfl) (by repeat' (first | refine all_cons_true ?_ ?_ | rfl | exact bytes_inUse | exact vals_inUse | exact mid_inUse rfl))) ⟨(L ++ [s]), (L.length + 1), some ⟨b1, 0, none⟩, c1, _, by rw [List.length_append]; rfl, by rw [List.length_append]; simp; omega, fun b o h => withBlock_old n1 b o h, one_in (withBlock_at _ _ _) sp1, rfl⟩
      · have hc := cAppend_no Y z q L s rfl he (by omega)
        have hu := uAppend_no Y z q ad L.length cp s rfl he
        generalize appE z q L.length s = e at *
        (refine LWP.region (by kernel_rfl) <| kfa rfl rfl ?_; refine kl1 rfl rfl rfl <| RunK.nil <| LWP.block <| LWP.seq <| LWP.seq <| LWP.region (by kernel_rfl) <| keq rfl rfl (beq_eq_false_iff_ne.2 (by omega)) <| kas rfl <| RunK.nil <| LWP.condF rfl ?_; refine LWP.seq <| LWP.region (by kernel_rfl) <| keq rfl rfl (beq_iff_eq.2 (by omega)) <| kas rfl <| RunK.nil <| LWP.condT rfl ?_; refine LWP.skip ?_; refine LWP.condT rfl ?_; refine LWP.seq <| LWP.draws mixed (by kernel_rfl) <| kmv rfl <| kfa rfl rfl ?_; refine kl1 rfl rfl rfl <| K.callR [(1000000, 500)] (hc) rfl rfl (by exact (And.intro ⟨_, rfl, rfl⟩ trivial)) (by exact (all_cons_true rfl rfl)) rfl rfl rfl rfl .plain <| kmv rfl <| kfa rfl rfl ?_; refine kl1 rfl rfl rfl <| K.callR [(1000000, 97)] (hu) rfl rfl (by exact (And.intro ⟨_, rfl, rfl⟩ trivial)) (by exact (all_cons_true (all_cons_true rfl (all_cons_true rfl (all_cons_true rfl rfl))) rfl)) rfl rfl rfl rfl .plain <| kne rfl rfl (r := false) (by simp) <| RunK.nil <| And.intro (by kernel_rfl) ?_; refine LWP.condF rfl ?_; refine LWP.skip ?_)
        exact Leads.here (Le.of (by exact ⟨rfl, rfl, rfl, rfl, rfl, rfl, trivial⟩) (by exact ⟨rfl, rfl, trivial⟩) (by exact rfl) (by exact rfl) (by repeat' (first | refine all_cons_true ?_ ?_ | rfl | exact bytes_inUse | exact vals_inUse | exact mid_inUse rfl))) ⟨L, L.length, ad, cp, Y, rfl, by omega, fun _ _ h => h, hS, rfl⟩
    · subst hk
      by_cases he : appE z q L.length s = 0
      · obtain ⟨hs1, hs2⟩ := appE_ok he
        have hc := cAppend_ok Y z q L s he
        have hu := uAppend_ok Y (z : Nat) (q : Nat) ad cp L s hS (by omega) (by omega) (by omega)
        (refine LWP.region (by kernel_rfl) <| kfa rfl rfl ?_; refine kl1 rfl rfl rfl <| RunK.nil <| LWP.block <| LWP.seq <| LWP.seq <| LWP.region (by kernel_rfl) <| keq rfl rfl (beq_eq_false_iff_ne.2 (by omega)) <| kas rfl <| RunK.nil <| LWP.condF rfl ?_; refine LWP.seq <| LWP.region (by kernel_rfl) <| keq rfl rfl (beq_eq_false_iff_ne.2 (by omega)) <| kas rfl <| RunK.nil <| LWP.condF rfl ?_; refine LWP.region (by kernel_rfl) <| keq rfl rfl (beq_iff_eq.2 (by omega)) <| kas rfl <| RunK.nil <| LWP.condT rfl ?_; refine LWP.seq <| LWP.draws mixed (by kernel_rfl) <| kmv rfl <| kfa rfl rfl ?_; refine kl1 rfl rfl rfl <| K.callM [(1000000, 500)] [cB 500 z q (L ++ [s])] (hc) rfl rfl (by exact (And.intro ⟨_, rfl, rfl⟩ trivial)) (by exact (all_cons_true rfl rfl)) rfl rfl rfl rfl (by exact (.box rfl rfl .nil)) .plain <| kmv rfl <| kfa rfl rfl ?_; refine kl1 rfl rfl rfl <| K.callM [(1000000, 97), (1000001, 501)] [uB 97 (z : Nat) (q : Nat) (.slc 501 0 (L.length + 1)), (501, some ⟨9, (txV (L ++ [s])).map .val, true⟩)] (hu) rfl rfl (by exact (And.intro ⟨_, rfl, rfl⟩ trivial)) (by exact (all_cons_true (all_cons_true rfl (all_cons_true rfl (all_cons_true rfl rfl))) rfl)) rfl rfl rfl rfl (by exact (.box rfl rfl (.box rfl (Box.ren_vals _ _ _ _) .nil))) .plain <| kne rfl rfl ((bne_eq_false_iff_eq.2 (by omega))) <| RunK.nil <| And.intro (by kernel_rfl) ?_; refine LWP.condF rfl ?_; refine LWP.skip ?_)
        refine Leads.le (σ' := ⟨[(0, Ln .i64 (z : Nat)), (1, Ln .i64 (q : Nat)), (2, Tx ada ds.length capa), (7, Lp 500), (12, Lp 97), (13, Ln .i64 (i : Nat))], [(97, some ⟨39, [.val (.int .i64 (z : Nat)), .val (.int .i64 (q : Nat))] ++ .slc 501 0 (L.length + 1) :: [], false⟩), (501, some ⟨9, (txV (L ++ [s])).map .val, true⟩), cB 500 z q (L ++ [s])], Y⟩) (Le.of (by exact ⟨rfl, rfl, rfl, rfl, rfl, rfl, trivial⟩) (by exact ⟨rfl, rfl, rfl, trivial⟩) (by exact rfl) (by exact rfl) (by repeat' (first | refine all_cons_true ?_ ?_ | rfl | exact bytes_inUse | exact vals_inUse | exact mid_inUse rfl))) ?_
        refine Leads.freezeCell rfl rfl rfl rfl rfl rfl ?_
        intro b1 c1 a1 f1 n1 z1 g1 g2 sp1
        exact Leads.here (Le.of (by exact ⟨rfl, rfl, rfl, rfl, rfl, rfl, trivial⟩) (by exact ⟨rfl, rfl, trivial⟩) (by exact rfl) (by exact rfl) (by repeat' (first | refine all_cons_true ?_ ?_ | rfl | exact bytes_inUse | exact vals_inUse | exact mid_inUse rfl))) ⟨(L ++ [s]), (L.length + 1), some ⟨b1, 0, none⟩, c1, _, by rw [List.length_append]; rfl, by rw [List.length_append]; simp; omega, fun b o h => withBlock_old n1 b o h, one_in (withBlock_at _ _ _) sp1, rfl⟩
      · have hc := cAppend_no Y z q L s rfl he (by omega)
        have hu := uAppend_no Y z q ad L.length cp s rfl he
        generalize appE z q L.length s = e at *
        (refine LWP.region (by kernel_rfl) <| kfa rfl rfl ?_; refine kl1 rfl rfl rfl <| RunK.nil <| LWP.block <| LWP.seq <| LWP.seq <| LWP.region (by kernel_rfl) <| keq rfl rfl (beq_eq_false_iff_ne.2 (by omega)) <| kas rfl <| RunK.nil <| LWP.condF rfl ?_; refine LWP.seq <| LWP.region (by kernel_rfl) <| keq rfl rfl (beq_eq_false_iff_ne.2 (by omega)) <| kas rfl <| RunK.nil <| LWP.condF rfl ?_; refine LWP.region (by kernel_rfl) <| keq rfl rfl (beq_iff_eq.2 (by omega)) <| kas rfl <| RunK.nil <| LWP.condT rfl ?_; refine LWP.seq <| LWP.draws mixed (by kernel_rfl) <| kmv rfl <| kfa rfl rfl ?_; refine kl1 rfl rfl rfl <| K.callR [(1000000, 500)] (hc) rfl rfl (by exact (And.intro ⟨_, rfl, rfl⟩ trivial)) (by exact (all_cons_true rfl rfl)) rfl rfl rfl rfl .plain <| kmv rfl <| kfa rfl rfl ?_; refine kl1 rfl rfl rfl <| K.callR [(1000000, 97)] (hu) rfl rfl (by exact (And.intro ⟨_, rfl, rfl⟩ trivial)) (by exact (all_cons_true (all_cons_true rfl (all_cons_true rfl (all_cons_true rfl rfl))) rfl)) rfl rfl rfl rfl .plain <| kne rfl rfl (r := false) (by simp) <| RunK.nil <| And.intro (by kernel_rfl) ?_; refine LWP.condF rfl ?_; refine LWP.skip ?_)
        exact Leads.here (Le.of (by exact ⟨rfl, rfl, rfl, rfl, rfl, rfl, trivial⟩) (by exact ⟨rfl, rfl, trivial⟩) (by exact rfl) (by exact rfl) (by repeat' (first | refine all_cons_true ?_ ?_ | rfl | exact bytes_inUse | exact vals_inUse | exact mid_inUse rfl))) ⟨L, L.length, ad, cp, Y, rfl, by omega, fun _ _ h => h, hS, rfl⟩
    · subst hk
      by_cases he : setE z L.length ii s = 0
      · obtain ⟨hs1, j, rfl, hj⟩ := setE_ok he
        have hc := cSet_ok Y z q L j s hj hs1
        have hu := uSet_ok Y (z : Nat) (q : Nat) ad cp L j s hS hj (by omega) (by omega)
        (refine LWP.region (by kernel_rfl) <| kfa rfl rfl ?_; refine kl1 rfl rfl rfl <| RunK.nil <| LWP.block <| LWP.seq <| LWP.seq <| LWP.region (by kernel_rfl) <| keq rfl rfl (beq_eq_false_iff_ne.2 (by omega)) <| kas rfl <| RunK.nil <| LWP.condF rfl ?_; refine LWP.seq <| LWP.region (by kernel_rfl) <| keq rfl rfl (beq_eq_false_iff_ne.2 (by omega)) <| kas rfl <| RunK.nil <| LWP.condF rfl ?_; refine LWP.region (by kernel_rfl) <| keq rfl rfl (beq_eq_false_iff_ne.2 (by omega)) <| kas rfl <| RunK.nil <| LWP.condF rfl ?_; refine LWP.seq <| LWP.region (by kernel_rfl) <| keq rfl rfl (beq_iff_eq.2 (by omega)) <| kas rfl <| RunK.nil <| LWP.condT rfl ?_; refine LWP.seq <| LWP.draws mixed (by kernel_rfl) <| kmv rfl <| kfa rfl rfl ?_; refine kl1 rfl rfl rfl <| kfa rfl rfl ?_; refine kl1 rfl rfl rfl <| K.callM [(1000000, 500)] [cB 500 z q (L.set j s)] (hc) rfl rfl (by exact (And.intro ⟨_, rfl, rfl⟩ trivial)) (by exact (all_cons_true rfl rfl)) rfl rfl rfl rfl (by exact (.box rfl rfl .nil)) .plain <| kmv rfl <| kfa rfl rfl ?_; refine kl1 rfl rfl rfl <| kfa rfl rfl ?_; refine kl1 rfl rfl rfl <| K.callM [(1000000, 97), (1000001, 501)] [uB 97 (z : Nat) (q : Nat) (.slc 501 0 L.length), (501, some ⟨9, (txV (L.set j s)).map .val, true⟩)] (hu) rfl rfl (by exact (And.intro ⟨_, rfl, rfl⟩ trivial)) (by exact (all_cons_true (all_cons_true rfl (all_cons_true rfl (all_cons_true rfl rfl))) rfl)) rfl rfl rfl rfl (by exact (.box rfl rfl (.box rfl (Box.ren_vals _ _ _ _) .nil))) .plain <| kne rfl rfl ((bne_eq_false_iff_eq.2 (by omega))) <| RunK.nil <| And.intro (by kernel_rfl) ?_; refine LWP.condF rfl ?_; refine LWP.skip ?_)
        refine Leads.le (σ' := ⟨[(0, Ln .i64 (z : Nat)), (1, Ln .i64 (q : Nat)), (2, Tx ada ds.length capa), (7, Lp 500), (12, Lp 97), (13, Ln .i64 (i : Nat))], [(97, some ⟨39, [.val (.int .i64 (z : Nat)), .val (.int .i64 (q : Nat))] ++ .slc 501 0 L.length :: [], false⟩), (501, some ⟨9, (txV (L.set j s)).map .val, true⟩), cB 500 z q (L.set j s)], Y⟩) (Le.of (by exact ⟨rfl, rfl, rfl, rfl, rfl, rfl, trivial⟩) (by exact ⟨rfl, rfl, rfl, trivial⟩) (by exact rfl) (by exact rfl) (by repeat' (first | refine all_cons_true ?_ ?_ | rfl | exact bytes_inUse | exact vals_inUse | exact mid_inUse rfl))) ?_
        refine Leads.freezeCell rfl rfl rfl rfl rfl rfl ?_
        intro b1 c1 a1 f1 n1 z1 g1 g2 sp1
        exact Leads.here (Le.of (by exact ⟨rfl, rfl, rfl, rfl, rfl, rfl, trivial⟩) (by exact ⟨rfl, rfl, trivial⟩) (by exact rfl) (by exact rfl) (by repeat' (first | refine all_cons_true ?_ ?_ | rfl | exact bytes_inUse | exact vals_inUse | exact mid_inUse rfl))) ⟨(L.set j s), L.length, some ⟨b1, 0, none⟩, c1, _, by rw [List.length_set], by rw [List.length_set]; omega, fun b o h => withBlock_old n1 b o h, one_in (withBlock_at _ _ _) sp1, rfl⟩
      · have hc := cSet_no Y z q L ii s rfl he
        have hu := uSet_no Y z q ad L.length cp ii s rfl he
        generalize setE z L.length ii s = e at *
        (refine LWP.region (by kernel_rfl) <| kfa rfl rfl ?_; refine kl1 rfl rfl rfl <| RunK.nil <| LWP.block <| LWP.seq <| LWP.seq <| LWP.region (by kernel_rfl) <| keq rfl rfl (beq_eq_false_iff_ne.2 (by omega)) <| kas rfl <| RunK.nil <| LWP.condF rfl ?_; refine LWP.seq <| LWP.region (by kernel_rfl) <| keq rfl rfl (beq_eq_false_iff_ne.2 (by omega)) <| kas rfl <| RunK.nil <| LWP.condF rfl ?_; refine LWP.region (by kernel_rfl) <| keq rfl rfl (beq_eq_false_iff_ne.2 (by omega)) <| kas rfl <| RunK.nil <| LWP.condF rfl ?_; refine LWP.seq <| LWP.region (by kernel_rfl) <| keq rfl rfl (beq_iff_eq.2 (by omega)) <| kas rfl <| RunK.nil <| LWP.condT rfl ?_; refine LWP.seq <| LWP.draws mixed (by kernel_rfl) <| kmv rfl <| kfa rfl rfl ?_; refine kl1 rfl rfl rfl <| kfa rfl rfl ?_; refine kl1 rfl rfl rfl <| K.callR [(1000000, 500)] (hc) rfl rfl (by exact (And.intro ⟨_, rfl, rfl⟩ trivial)) (by exact (all_cons_true rfl rfl)) rfl rfl rfl rfl .plain <| kmv rfl <| kfa rfl rfl ?_; refine kl1 rfl rfl rfl <| kfa rfl rfl ?_; refine kl1 rfl rfl rfl <| K.callR [(1000000, 97)] (hu) rfl rfl (by exact (And.intro ⟨_, rfl, rfl⟩ trivial)) (by exact (all_cons_true (all_cons_true rfl (all_cons_true rfl (all_cons_true rfl rfl))) rfl)) rfl rfl rfl rfl .plain <| kne rfl rfl (r := false) (by simp) <| RunK.nil <| And.intro (by kernel_rfl) ?_; refine LWP.condF rfl ?_; refine LWP.skip ?_)
        exact Leads.here (Le.of (by exact ⟨rfl, rfl, rfl, rfl, rfl, rfl, trivial⟩) (by exact ⟨rfl, rfl, trivial⟩) (by exact rfl) (by exact rfl) (by repeat' (first | refine all_cons_true ?_ ?_ | rfl | exact bytes_inUse | exact vals_inUse | exact mid_inUse rfl))) ⟨L, L.length, ad, cp, Y, rfl, by omega, fun _ _ h => h, hS, rfl⟩
    · subst hk
      by_cases hi0 : ii < 0
      · have hc := cGet_no Y z q L ii (.inl hi0)
        (refine LWP.region (by kernel_rfl) <| kfa rfl rfl ?_; refine kl1 rfl rfl rfl <| RunK.nil <| LWP.block <| LWP.seq <| LWP.seq <| LWP.region (by kernel_rfl) <| keq rfl rfl (beq_eq_false_iff_ne.2 (by omega)) <| kas rfl <| RunK.nil <| LWP.condF rfl ?_; refine LWP.seq <| LWP.region (by kernel_rfl) <| keq rfl rfl (beq_eq_false_iff_ne.2 (by omega)) <| kas rfl <| RunK.nil <| LWP.condF rfl ?_; refine LWP.region (by kernel_rfl) <| keq rfl rfl (beq_eq_false_iff_ne.2 (by omega)) <| kas rfl <| RunK.nil <| LWP.condF rfl ?_; refine LWP.seq <| LWP.region (by kernel_rfl) <| keq rfl rfl (beq_eq_false_iff_ne.2 (by omega)) <| kas rfl <| RunK.nil <| LWP.condF rfl ?_; refine LWP.seq <| LWP.region (by kernel_rfl) <| keq rfl rfl (beq_iff_eq.2 (by omega)) <| kas rfl <| RunK.nil <| LWP.condT rfl ?_; refine LWP.seq <| LWP.region (by kernel_rfl) <| kmv rfl <| kfa rfl rfl ?_; refine kl1 rfl rfl rfl <| K.callR [(1000000, 500)] (hc) rfl rfl (by exact (And.intro ⟨_, rfl, rfl⟩ trivial)) (by exact (all_cons_true rfl rfl)) rfl rfl rfl rfl .plain <| kmv rfl <| kex rfl rfl <| kex rfl rfl <| kas rfl <| kas rfl <| RunK.nil <| LWP.seq <| LWP.draws mixed (by kernel_rfl) <| kfa rfl rfl ?_; refine kl1 rfl rfl rfl <| klt rfl rfl (decide_eq_true hi0) <| kmv rfl <| RunK.passed rfl rfl rfl <| RunK.passed rfl rfl rfl <| RunK.passed rfl rfl rfl <| RunK.passed rfl rfl rfl <| RunK.passed rfl rfl rfl <| RunK.passed rfl rfl rfl <| RunK.passed rfl rfl rfl <| RunK.passed rfl rfl rfl <| kpt rfl rfl <| RunK.nil <| And.intro (by kernel_rfl) ?_; refine LWP.condT rfl ?_; refine LWP.seq <| LWP.region (by kernel_rfl) <| kmv rfl <| kne rfl rfl ((bne_eq_false_iff_eq.2 (by omega))) <| kmv rfl <| gmv rfl rfl rfl <| K.strNe rfl rfl (strs_ne (r := false) (by decide)) (.taken rfl rfl) ?_; refine kpf rfl rfl <| RunK.nil <| LWP.condF rfl ?_; refine LWP.skip ?_)
        exact Leads.here (Le.of (by exact ⟨rfl, rfl, rfl, rfl, rfl, rfl, trivial⟩) (by exact ⟨rfl, rfl, trivial⟩) (by exact rfl) (by exact rfl) (by repeat' (first | refine all_cons_true ?_ ?_ | rfl | exact bytes_inUse | exact vals_inUse | exact mid_inUse rfl))) ⟨L, L.length, ad, cp, Y, rfl, by omega, fun _ _ h => h, hS, rfl⟩
      · by_cases hi1 : (L.length : Int) ≤ ii
        · have hc := cGet_no Y z q L ii (.inr hi1)
          (refine LWP.region (by kernel_rfl) <| kfa rfl rfl ?_; refine kl1 rfl rfl rfl <| RunK.nil <| LWP.block <| LWP.seq <| LWP.seq <| LWP.region (by kernel_rfl) <| keq rfl rfl (beq_eq_false_iff_ne.2 (by omega)) <| kas rfl <| RunK.nil <| LWP.condF rfl ?_; refine LWP.seq <| LWP.region (by kernel_rfl) <| keq rfl rfl (beq_eq_false_iff_ne.2 (by omega)) <| kas rfl <| RunK.nil <| LWP.condF rfl ?_; refine LWP.region (by kernel_rfl) <| keq rfl rfl (beq_eq_false_iff_ne.2 (by omega)) <| kas rfl <| RunK.nil <| LWP.condF rfl ?_; refine LWP.seq <| LWP.region (by kernel_rfl) <| keq rfl rfl (beq_eq_false_iff_ne.2 (by omega)) <| kas rfl <| RunK.nil <| LWP.condF rfl ?_; refine LWP.seq <| LWP.region (by kernel_rfl) <| keq rfl rfl (beq_iff_eq.2 (by omega)) <| kas rfl <| RunK.nil <| LWP.condT rfl ?_; refine LWP.seq <| LWP.region (by kernel_rfl) <| kmv rfl <| kfa rfl rfl ?_; refine kl1 rfl rfl rfl <| K.callR [(1000000, 500)] (hc) rfl rfl (by exact (And.intro ⟨_, rfl, rfl⟩ trivial)) (by exact (all_cons_true rfl rfl)) rfl rfl rfl rfl .plain <| kmv rfl <| kex rfl rfl <| kex rfl rfl <| kas rfl <| kas rfl <| RunK.nil <| LWP.seq <| LWP.draws mixed (by kernel_rfl) <| kfa rfl rfl ?_; refine kl1 rfl rfl rfl <| klt rfl rfl (decide_eq_false hi0) <| kmv rfl <| K.fieldAddr rfl rfl (.taken rfl rfl) ?_; refine K.loadOne rfl rfl rfl (.taken rfl rfl) ?_; refine gmv rfl rfl rfl <| K.nilCheck rfl (.taken rfl rfl) ?_; refine K.fieldAddr rfl rfl (.taken rfl rfl) ?_; refine K.loadOne rfl rfl rfl (.taken rfl rfl) ?_; refine K.lenX rfl SliceT.h rfl (.taken rfl rfl) ?_; refine K.geq rfl rfl (decide_eq_true (by omega)) (.taken rfl rfl) ?_; refine kpf rfl rfl <| RunK.nil <| And.intro (by kernel_rfl) ?_; refine LWP.condT rfl ?_; refine LWP.seq <| LWP.region (by kernel_rfl) <| kmv rfl <| kne rfl rfl ((bne_eq_false_iff_eq.2 (by omega))) <| kmv rfl <| gmv rfl rfl rfl <| K.strNe rfl rfl (strs_ne (r := false) (by decide)) (.taken rfl rfl) ?_; refine kpf rfl rfl <| RunK.nil <| LWP.condF rfl ?_; refine LWP.skip ?_)
          exact Leads.here (Le.of (by exact ⟨rfl, rfl, rfl, rfl, rfl, rfl, trivial⟩) (by exact ⟨rfl, rfl, trivial⟩) (by exact rfl) (by exact rfl) (by repeat' (first | refine all_cons_true ?_ ?_ | rfl | exact bytes_inUse | exact vals_inUse | exact mid_inUse rfl))) ⟨L, L.length, ad, cp, Y, rfl, by omega, fun _ _ h => h, hS, rfl⟩
        · obtain ⟨j, rfl⟩ : ∃ j : Nat, ii = j := ⟨ii.toNat, by omega⟩
          obtain ⟨l, hl⟩ : ∃ l, L[j]? = some l := ⟨_, List.getElem?_eq_getElem (by omega)⟩
          have hc := cGet_ok Y z q L j l hl
          obtain ⟨blk2, off2, arr2, el2, fr2, rfl, hX2, hc2⟩ := hS j _ (txV_at hl)
          have hjo : off2 + Int.toNat (j : Int) * 1 = off2 + j := by simp
          ((refine LWP.region (by kernel_rfl) <| kfa rfl rfl ?_; refine kl1 rfl rfl rfl <| RunK.nil <| LWP.block <| LWP.seq <| LWP.seq <| LWP.region (by kernel_rfl) <| keq rfl rfl (beq_eq_false_iff_ne.2 (by omega)) <| kas rfl <| RunK.nil <| LWP.condF rfl ?_; refine LWP.seq <| LWP.region (by kernel_rfl) <| keq rfl rfl (beq_eq_false_iff_ne.2 (by omega)) <| kas rfl <| RunK.nil <| LWP.condF rfl ?_; refine LWP.region (by kernel_rfl) <| keq rfl rfl (beq_eq_false_iff_ne.2 (by omega)) <| kas rfl <| RunK.nil <| LWP.condF rfl ?_; refine LWP.seq <| LWP.region (by kernel_rfl) <| keq rfl rfl (beq_eq_false_iff_ne.2 (by omega)) <| kas rfl <| RunK.nil <| LWP.condF rfl ?_; refine LWP.seq <| LWP.region (by kernel_rfl) <| keq rfl rfl (beq_iff_eq.2 (by omega)) <| kas rfl <| RunK.nil <| LWP.condT rfl ?_; refine LWP.seq <| LWP.region (by kernel_rfl) <| kmv rfl <| kfa rfl rfl ?_; refine kl1 rfl rfl rfl <| K.callR [(1000000, 500)] (hc) rfl rfl (by exact (And.intro ⟨_, rfl, rfl⟩ trivial)) (by exact (all_cons_true rfl rfl)) rfl rfl rfl rfl .plain <| kmv rfl <| kex rfl rfl <| kex rfl rfl <| kas rfl <| kas rfl <| RunK.nil <| LWP.seq <| LWP.draws mixed (by kernel_rfl) <| kfa rfl rfl ?_; refine kl1 rfl rfl rfl <| klt rfl rfl (decide_eq_false hi0) <| kmv rfl <| K.fieldAddr rfl rfl (.taken rfl rfl) ?_; refine K.loadOne rfl rfl rfl (.taken rfl rfl) ?_; refine gmv rfl rfl rfl <| K.nilCheck rfl (.taken rfl rfl) ?_; refine K.fieldAddr rfl rfl (.taken rfl rfl) ?_); (refine K.loadOne rfl rfl rfl (.taken rfl rfl) ?_; refine K.lenX rfl SliceT.h rfl (.taken rfl rfl) ?_; refine K.geq rfl rfl (decide_eq_false (by omega)) (.taken rfl rfl) ?_; refine kpf rfl rfl <| RunK.nil <| And.intro (by kernel_rfl) ?_; refine LWP.condF rfl ?_; refine LWP.seq <| LWP.draws mixed (by kernel_rfl) <| kmv rfl <| kne rfl rfl ((bne_eq_false_iff_eq.2 (by omega))) <| kmv rfl <| gmv rfl rfl rfl <| gmv rfl rfl rfl <| K.nilCheck rfl (.taken rfl rfl) ?_; refine K.fieldAddr rfl rfl (.taken rfl rfl) ?_; refine K.loadOne rfl rfl rfl (.taken rfl rfl) ?_; refine K.fieldAddr rfl rfl (.taken rfl rfl) ?_; refine K.loadOne rfl rfl rfl (.taken rfl rfl) ?_; refine K.indexX rfl rfl SliceT.h (by omega) hjo (.taken rfl rfl) ?_; refine K.loadX rfl hX2 rfl hc2 (.taken rfl rfl) ?_); (refine K.strNe rfl rfl (strs_ne (r := false) (by simp)) (.taken rfl rfl) ?_; refine kpf rfl rfl <| RunK.nil <| And.intro (by kernel_rfl) ?_; refine LWP.condF rfl ?_; refine LWP.skip ?_))
          exact Leads.here (Le.of (by exact ⟨rfl, rfl, rfl, rfl, rfl, rfl, trivial⟩) (by exact ⟨rfl, rfl, trivial⟩) (by exact rfl) (by exact rfl) (by repeat' (first | refine all_cons_true ?_ ?_ | rfl | exact bytes_inUse | exact vals_inUse | exact mid_inUse rfl))) ⟨L, L.length, _, cp, Y, rfl, by omega, fun _ _ h => h, hS, rfl⟩
    · subst hk
      by_cases hi0 : ii < 0 ∨ (L.length : Int) ≤ ii
      · have hc := cSwap_no Y z q L ii hi0
        have hu := uSwap_range Y (z : Nat) (q : Nat) ad L.length cp ii hi0
        (refine LWP.region (by kernel_rfl) <| kfa rfl rfl ?_; refine kl1 rfl rfl rfl <| RunK.nil <| LWP.block <| LWP.seq <| LWP.seq <| LWP.region (by kernel_rfl) <| keq rfl rfl (beq_eq_false_iff_ne.2 (by omega)) <| kas rfl <| RunK.nil <| LWP.condF rfl ?_; refine LWP.seq <| LWP.region (by kernel_rfl) <| keq rfl rfl (beq_eq_false_iff_ne.2 (by omega)) <| kas rfl <| RunK.nil <| LWP.condF rfl ?_; refine LWP.region (by kernel_rfl) <| keq rfl rfl (beq_eq_false_iff_ne.2 (by omega)) <| kas rfl <| RunK.nil <| LWP.condF rfl ?_; refine LWP.seq <| LWP.region (by kernel_rfl) <| keq rfl rfl (beq_eq_false_iff_ne.2 (by omega)) <| kas rfl <| RunK.nil <| LWP.condF rfl ?_; refine LWP.seq <| LWP.region (by kernel_rfl) <| keq rfl rfl (beq_eq_false_iff_ne.2 (by omega)) <| kas rfl <| RunK.nil <| LWP.condF rfl ?_; refine LWP.seq <| LWP.region (by kernel_rfl) <| keq rfl rfl (beq_iff_eq.2 (by omega)) <| kas rfl <| RunK.nil <| LWP.condT rfl ?_; refine LWP.seq <| LWP.region (by kernel_rfl) <| kmv rfl <| kfa rfl rfl ?_; refine kl1 rfl rfl rfl <| K.callR [(1000000, 500)] (hc) rfl rfl (by exact (And.intro ⟨_, rfl, rfl⟩ trivial)) (by exact (all_cons_true rfl rfl)) rfl rfl rfl rfl .plain <| kmv rfl <| kex rfl rfl <| kex rfl rfl <| kas rfl <| kas rfl <| RunK.nil <| LWP.seq <| LWP.region (by kernel_rfl) <| kmv rfl <| kfa rfl rfl ?_; refine kl1 rfl rfl rfl <| K.callR [(1000000, 97)] (hu) rfl rfl (by exact (And.intro ⟨_, rfl, rfl⟩ trivial)) (by exact (all_cons_true (all_cons_true rfl (all_cons_true rfl (all_cons_true rfl rfl))) rfl)) rfl rfl rfl rfl .plain <| kmv rfl <| kex rfl rfl <| kex rfl rfl <| kas rfl <| kas rfl <| RunK.nil <| LWP.seq <| LWP.region (by kernel_rfl) <| kmv rfl <| kmv rfl <| kne rfl rfl ((bne_eq_false_iff_eq.2 (by omega))) <| kmv rfl ?_; refine gmv rfl rfl rfl <| gmv rfl rfl rfl <| K.neq rfl rfl ((bne_eq_false_iff_eq.2 (by omega))) (.taken rfl rfl) ?_; refine kpf rfl rfl <| RunK.nil <| LWP.condF rfl ?_; refine LWP.skip ?_)
        exact Leads.here (Le.of (by exact ⟨rfl, rfl, rfl, rfl, rfl, rfl, trivial⟩) (by exact ⟨rfl, rfl, trivial⟩) (by exact rfl) (by exact rfl) (by repeat' (first | refine all_cons_true ?_ ?_ | rfl | exact bytes_inUse | exact vals_inUse | exact mid_inUse rfl))) ⟨L, L.length, ad, cp, Y, rfl, by omega, fun _ _ h => h, hS, rfl⟩
      · obtain ⟨j, rfl⟩ : ∃ j : Nat, ii = j := ⟨ii.toNat, by omega⟩
        obtain ⟨l, hl⟩ : ∃ l, L[L.length - 1]? = some l := ⟨_, List.getElem?_eq_getElem (by omega)⟩
        have hc := cSwap_ok Y z q L j (by omega) (swapL_at hl)
        have hu := uSwap_ok Y (z : Nat) (q : Nat) ad cp L j l hS (by omega) hl (by omega)
        have hlen : ((L.set j l).take (L.length - 1)).length = L.length - 1 := by rw [List.length_take, List.length_set]; omega
        (refine LWP.region (by kernel_rfl) <| kfa rfl rfl ?_; refine kl1 rfl rfl rfl <| RunK.nil <| LWP.block <| LWP.seq <| LWP.seq <| LWP.region (by kernel_rfl) <| keq rfl rfl (beq_eq_false_iff_ne.2 (by omega)) <| kas rfl <| RunK.nil <| LWP.condF rfl ?_; refine LWP.seq <| LWP.region (by kernel_rfl) <| keq rfl rfl (beq_eq_false_iff_ne.2 (by omega)) <| kas rfl <| RunK.nil <| LWP.condF rfl ?_; refine LWP.region (by kernel_rfl) <| keq rfl rfl (beq_eq_false_iff_ne.2 (by omega)) <| kas rfl <| RunK.nil <| LWP.condF rfl ?_; refine LWP.seq <| LWP.region (by kernel_rfl) <| keq rfl rfl (beq_eq_false_iff_ne.2 (by omega)) <| kas rfl <| RunK.nil <| LWP.condF rfl ?_; refine LWP.seq <| LWP.region (by kernel_rfl) <| keq rfl rfl (beq_eq_false_iff_ne.2 (by omega)) <| kas rfl <| RunK.nil <| LWP.condF rfl ?_; refine LWP.seq <| LWP.region (by kernel_rfl) <| keq rfl rfl (beq_iff_eq.2 (by omega)) <| kas rfl <| RunK.nil <| LWP.condT rfl ?_; refine LWP.seq <| LWP.region (by kernel_rfl) <| kmv rfl <| kfa rfl rfl ?_; refine kl1 rfl rfl rfl <| K.callM [(1000000, 500)] [cB 500 z q ((L.set j l).take (L.length - 1))] (hc) rfl rfl (by exact (And.intro ⟨_, rfl, rfl⟩ trivial)) (by exact (all_cons_true rfl rfl)) rfl rfl rfl rfl (by exact (.box rfl rfl .nil)) .plain <| kmv rfl <| kex rfl rfl <| kex rfl rfl <| kas rfl <| kas rfl <| RunK.nil <| LWP.seq <| LWP.region (by kernel_rfl) <| kmv rfl <| kfa rfl rfl ?_; refine kl1 rfl rfl rfl <| K.callM [(1000000, 97), (1000001, 501)] [uB 97 (z : Nat) (q : Nat) (.slc 501 0 (L.length - 1)), (501, some ⟨9, (txV (L.set j l)).map .val, true⟩)] (hu) rfl rfl (by exact (And.intro ⟨_, rfl, rfl⟩ trivial)) (by exact (all_cons_true (all_cons_true rfl (all_cons_true rfl (all_cons_true rfl rfl))) rfl)) rfl rfl rfl rfl (by exact (.box rfl rfl (.box rfl (Box.ren_vals _ _ _ _) .nil))) .plain <| kmv rfl <| kex rfl rfl <| kex rfl rfl <| kas rfl <| kas rfl <| RunK.nil <| LWP.seq <| LWP.region (by kernel_rfl) <| kmv rfl <| kmv rfl <| kne rfl rfl (r := false) (by simp) <| kmv rfl ?_; refine gmv rfl rfl rfl <| gmv rfl rfl rfl <| K.neq rfl rfl ((bne_eq_false_iff_eq.2 (by omega))) (.taken rfl rfl) ?_; refine kpf rfl rfl <| RunK.nil <| LWP.condF rfl ?_; refine LWP.skip ?_)
        refine Leads.le (σ' := ⟨[(0, Ln .i64 (z : Nat)), (1, Ln .i64 (q : Nat)), (2, Tx ada ds.length capa), (7, Lp 500), (12, Lp 97), (13, Ln .i64 (i : Nat))], [(97, some ⟨39, [.val (.int .i64 (z : Nat)), .val (.int .i64 (q : Nat))] ++ .slc 501 0 (L.length - 1) :: [], false⟩), (501, some ⟨9, (txV (L.set j l)).map .val, true⟩), cB 500 z q ((L.set j l).take (L.length - 1))], Y⟩) (Le.of (by exact ⟨rfl, rfl, rfl, rfl, rfl, rfl, trivial⟩) (by exact ⟨rfl, rfl, rfl, trivial⟩) (by exact rfl) (by exact rfl) (by repeat' (first | refine all_cons_true ?_ ?_ | rfl | exact bytes_inUse | exact vals_inUse | exact mid_inUse rfl))) ?_
        refine Leads.freezeCell rfl rfl rfl rfl rfl rfl ?_
        intro b1 c1 a1 f1 n1 z1 g1 g2 sp1
        exact Leads.here (Le.of (by exact ⟨rfl, rfl, rfl, rfl, rfl, rfl, trivial⟩) (by exact ⟨rfl, rfl, trivial⟩) (by exact rfl) (by exact rfl) (by repeat' (first | refine all_cons_true ?_ ?_ | rfl | exact bytes_inUse | exact vals_inUse | exact mid_inUse rfl))) ⟨((L.set j l).take (L.length - 1)), (L.length - 1), some ⟨b1, 0, none⟩, c1, _, hlen.symm, by rw [hlen]; omega, fun b o h => withBlock_old n1 b o h, by unfold txV; rw [List.map_take]; exact one_take _ (one_in (withBlock_at _ _ _) sp1), rfl⟩
    · subst hk
      have hc := cClone_spec Y z q L
      (refine LWP.region (by kernel_rfl) <| kfa rfl rfl ?_; refine kl1 rfl rfl rfl <| RunK.nil <| LWP.block <| LWP.seq <| LWP.seq <| LWP.region (by kernel_rfl) <| keq rfl rfl (beq_eq_false_iff_ne.2 (by omega)) <| kas rfl <| RunK.nil <| LWP.condF rfl ?_; refine LWP.seq <| LWP.region (by kernel_rfl) <| keq rfl rfl (beq_eq_false_iff_ne.2 (by omega)) <| kas rfl <| RunK.nil <| LWP.condF rfl ?_; refine LWP.region (by kernel_rfl) <| keq rfl rfl (beq_eq_false_iff_ne.2 (by omega)) <| kas rfl <| RunK.nil <| LWP.condF rfl ?_; refine LWP.seq <| LWP.region (by kernel_rfl) <| keq rfl rfl (beq_eq_false_iff_ne.2 (by omega)) <| kas rfl <| RunK.nil <| LWP.condF rfl ?_; refine LWP.seq <| LWP.region (by kernel_rfl) <| keq rfl rfl (beq_eq_false_iff_ne.2 (by omega)) <| kas rfl <| RunK.nil <| LWP.condF rfl ?_; refine LWP.seq <| LWP.region (by kernel_rfl) <| keq rfl rfl (beq_eq_false_iff_ne.2 (by omega)) <| kas rfl <| RunK.nil <| LWP.condF rfl ?_; refine LWP.seq <| LWP.region (by kernel_rfl) <| keq rfl rfl (beq_iff_eq.2 (by omega)) <| kas rfl <| RunK.nil <| LWP.condT rfl ?_; refine LWP.region (by kernel_rfl) <| kmv rfl <| K.callMp [(1000000, 500), (1000001, 502)] (Lp 502) [cB 500 z q L, cB 502 z q L] (hc) rfl rfl (by exact (And.intro ⟨_, rfl, rfl⟩ trivial)) (by exact (all_cons_true rfl rfl)) rfl rfl rfl rfl (by exact (.box rfl rfl (.box rfl rfl .nil))) .plain <| kas rfl <| RunK.nil ?_)
      exact Leads.here (Le.ofR [(500, 502), (97, 97)] (by exact ⟨rfl, rfl, rfl, rfl, rfl, rfl, trivial⟩) (by repeat' (first | exact trivial | refine And.intro ⟨_, rfl, ?_⟩ ?_ | refine And.intro ⟨_, rfl⟩ ?_ | rfl | exact Box.ren_bytes _ _ _ _ | exact Box.ren_vals _ _ _ _ | exact Box.ren_mid rfl)) (by exact rfl) (by exact rfl) (by repeat' (first | refine all_cons_true ?_ ?_ | rfl | exact bytes_inUse | exact vals_inUse | exact mid_inUse rfl)) (by exact rfl) (by exact rfl)) ⟨L, L.length, ad, cp, Y, rfl, by omega, fun _ _ h => h, hS, rfl⟩
    · subst hk
      have hc := cClone_spec Y z q L
      obtain ⟨L1, a1, b1, h1⟩ := cSwap_any Y z q L 0
      obtain ⟨L2, e2, h2⟩ := cAppend_any Y z q L1 s (by omega)
      obtain ⟨L3, e3, h3⟩ := cSet_any Y z q L2 0 s
      (refine LWP.region (by kernel_rfl) <| kfa rfl rfl ?_; refine kl1 rfl rfl rfl <| RunK.nil <| LWP.block <| LWP.seq <| LWP.seq <| LWP.region (by kernel_rfl) <| keq rfl rfl (beq_eq_false_iff_ne.2 (by omega)) <| kas rfl <| RunK.nil <| LWP.condF rfl ?_; refine LWP.seq <| LWP.region (by kernel_rfl) <| keq rfl rfl (beq_eq_false_iff_ne.2 (by omega)) <| kas rfl <| RunK.nil <| LWP.condF rfl ?_; refine LWP.region (by kernel_rfl) <| keq rfl rfl (beq_eq_false_iff_ne.2 (by omega)) <| kas rfl <| RunK.nil <| LWP.condF rfl ?_; refine LWP.seq <| LWP.region (by kernel_rfl) <| keq rfl rfl (beq_eq_false_iff_ne.2 (by omega)) <| kas rfl <| RunK.nil <| LWP.condF rfl ?_; refine LWP.seq <| LWP.region (by kernel_rfl) <| keq rfl rfl (beq_eq_false_iff_ne.2 (by omega)) <| kas rfl <| RunK.nil <| LWP.condF rfl ?_; refine LWP.seq <| LWP.region (by kernel_rfl) <| keq rfl rfl (beq_eq_false_iff_ne.2 (by omega)) <| kas rfl <| RunK.nil <| LWP.condF rfl ?_; refine LWP.seq <| LWP.region (by kernel_rfl) <| keq rfl rfl (beq_eq_false_iff_ne.2 (by omega)) <| kas rfl <| RunK.nil <| LWP.condF rfl ?_; refine LWP.seq <| LWP.region (by kernel_rfl) <| keq rfl rfl (beq_iff_eq.2 (by omega)) <| kas rfl <| RunK.nil <| LWP.condT rfl ?_; refine LWP.seq <| LWP.region (by kernel_rfl) <| kmv rfl <| K.callMp [(1000000, 500), (1000001, 502)] (Lp 502) [cB 500 z q L, cB 502 z q L] (hc) rfl rfl (by exact (And.intro ⟨_, rfl, rfl⟩ trivial)) (by exact (all_cons_true rfl rfl)) rfl rfl rfl rfl (by exact (.box rfl rfl (.box rfl rfl .nil))) .plain <| kas rfl <| RunK.nil <| LWP.seq <| LWP.region (by kernel_rfl) <| kmv rfl <| K.callM [(1000000, 502)] [cB 502 z q L1] (h1) rfl rfl (by exact (And.intro ⟨_, rfl, rfl⟩ trivial)) (by exact (all_cons_true rfl rfl)) rfl rfl rfl rfl (by exact (.box rfl rfl .nil)) .plain <| RunK.nil <| LWP.seq <| LWP.region (by kernel_rfl) <| kmv rfl ?_; refine kfa rfl rfl ?_; refine kl1 rfl rfl rfl <| K.callM [(1000000, 502)] [cB 502 z q L2] (h2) rfl rfl (by exact (And.intro ⟨_, rfl, rfl⟩ trivial)) (by exact (all_cons_true rfl rfl)) rfl rfl rfl rfl (by exact (.box rfl rfl .nil)) .plain <| RunK.nil <| LWP.region (by kernel_rfl) <| kmv rfl <| kfa rfl rfl ?_; refine kl1 rfl rfl rfl <| K.callM [(1000000, 502)] [cB 502 z q L3] (h3) rfl rfl (by exact (And.intro ⟨_, rfl, rfl⟩ trivial)) (by exact (all_cons_true rfl rfl)) rfl rfl rfl rfl (by exact (.box rfl rfl .nil)) .plain <| RunK.nil ?_)
      exact Leads.here (Le.of (by exact ⟨rfl, rfl, rfl, rfl, rfl, rfl, trivial⟩) (by exact ⟨rfl, rfl, trivial⟩) (by exact rfl) (by exact rfl) (by repeat' (first | refine all_cons_true ?_ ?_ | rfl | exact bytes_inUse | exact vals_inUse | exact mid_inUse rfl))) ⟨L, L.length, ad, cp, Y, rfl, by omega, fun _ _ h => h, hS, rfl⟩
    · obtain ⟨hk1, hk2, hk3, hk4, hk5, hk6, hk7, hk8⟩ := hk
      (refine LWP.region (by kernel_rfl) <| kfa rfl rfl ?_; refine kl1 rfl rfl rfl <| RunK.nil <| LWP.block <| LWP.seq <| LWP.seq <| LWP.region (by kernel_rfl) <| keq rfl rfl (beq_eq_false_iff_ne.2 hk1) <| kas rfl <| RunK.nil <| LWP.condF rfl ?_; refine LWP.seq <| LWP.region (by kernel_rfl) <| keq rfl rfl (beq_eq_false_iff_ne.2 hk2) <| kas rfl <| RunK.nil <| LWP.condF rfl ?_; refine LWP.region (by kernel_rfl) <| keq rfl rfl (beq_eq_false_iff_ne.2 hk3) <| kas rfl <| RunK.nil <| LWP.condF rfl ?_; refine LWP.seq <| LWP.region (by kernel_rfl) <| keq rfl rfl (beq_eq_false_iff_ne.2 hk4) <| kas rfl <| RunK.nil <| LWP.condF rfl ?_; refine LWP.seq <| LWP.region (by kernel_rfl) <| keq rfl rfl (beq_eq_false_iff_ne.2 hk5) <| kas rfl <| RunK.nil <| LWP.condF rfl ?_; refine LWP.seq <| LWP.region (by kernel_rfl) <| keq rfl rfl (beq_eq_false_iff_ne.2 hk6) <| kas rfl <| RunK.nil <| LWP.condF rfl ?_; refine LWP.seq <| LWP.region (by kernel_rfl) <| keq rfl rfl (beq_eq_false_iff_ne.2 hk7) <| kas rfl <| RunK.nil <| LWP.condF rfl ?_; refine LWP.seq <| LWP.region (by kernel_rfl) <| keq rfl rfl (beq_eq_false_iff_ne.2 hk8) <| kas rfl <| RunK.nil <| LWP.condF rfl ?_; refine LWP.skip ?_)
      exact Leads.here (Le.of (by exact ⟨rfl, rfl, rfl, rfl, rfl, rfl, trivial⟩) (by exact ⟨rfl, rfl, trivial⟩) (by exact rfl) (by exact rfl) (by repeat' (first | refine all_cons_true ?_ ?_ | rfl | exact bytes_inUse | exact vals_inUse | exact mid_inUse rfl))) ⟨L, L.length, ad, cp, Y, rfl, by omega, fun _ _ h => h, hS, rfl⟩
  rintro σ ⟨M, _, ad', cp', Z, rfl, hM, hYZ, hSZ, rfl⟩
  have r1 := cRows_spec Z z q M
  have r2 := cLen_spec Z z q M
  have r3 := cChunks_spec Z z q M
  have r4 := uChunks_spec Z (z : Nat) (q : Nat) ad' M.length cp' (by omega)
  have r5 := cSize_spec Z z q M
  have r6 := cCap_spec Z z q M
  have hR := fun S row hk => rows_lent Z (S := S) (k := 503) (el := 9) (row := row) (ad := ad') (cp := cp') (A := M) (B := M) (r := true) hSZ (by omega) (by omega) hk (by simp)
  (refine LWP.seq <| LWP.draws mixed (by kernel_rfl) <| kmv rfl <| K.callMp [(1000000, 500), (1000001, 503)] (.sv (.one (.slc 503 0 M.length))) [cB 500 z q M, rwB 503 M] (r1) rfl rfl (by exact (And.intro ⟨_, rfl, rfl⟩ trivial)) (by exact (all_cons_true rfl rfl)) rfl rfl rfl rfl (by exact (.box rfl rfl (.box rfl (Box.ren_vals _ _ _ _) .nil))) .plain <| kmv rfl <| K.nilCheck rfl .plain <| kfa rfl rfl ?_; refine kl1 rfl rfl rfl <| K.callX [503] rfl rfl rfl (hR _ _ rfl) .plain ?_; refine K.not rfl rfl .plain <| kmv rfl <| gmv rfl rfl rfl <| K.callR [(1000000, 500)] (r2) rfl rfl (by exact (And.intro ⟨_, rfl, rfl⟩ trivial)) (by exact (all_cons_true rfl rfl)) rfl rfl rfl rfl (.taken rfl rfl) ?_; refine gmv rfl rfl rfl <| K.nilCheck rfl (.taken rfl rfl) ?_; refine K.fieldAddr rfl rfl (.taken rfl rfl) ?_; refine K.loadOne rfl rfl rfl (.taken rfl rfl) ?_; refine K.lenX rfl SliceT.h rfl (.taken rfl rfl) ?_; refine K.neq rfl rfl ((bne_eq_false_iff_eq.2 (by omega))) (.taken rfl rfl) ?_; refine kpf rfl rfl <| kmv rfl <| gmv rfl rfl rfl <| K.callR [(1000000, 500)] (r3) rfl rfl (by exact (And.intro ⟨_, rfl, rfl⟩ trivial)) (by exact (all_cons_true rfl rfl)) rfl rfl rfl rfl (.taken rfl rfl) ?_; refine gmv rfl rfl rfl <| K.callR [(1000000, 97)] (r4) rfl rfl (by exact (And.intro ⟨_, rfl, rfl⟩ trivial)) (by exact (all_cons_true (all_cons_true rfl (all_cons_true rfl (all_cons_true rfl rfl))) rfl)) rfl rfl rfl rfl (.taken rfl rfl) ?_; refine K.neq rfl rfl (r := false) (by simp) (.taken rfl rfl) ?_; refine kpf rfl rfl <| kmv rfl <| gmv rfl rfl rfl <| K.callR [(1000000, 500)] (r5) rfl rfl (by exact (And.intro ⟨_, rfl, rfl⟩ trivial)) (by exact (all_cons_true rfl rfl)) rfl rfl rfl rfl (.taken rfl rfl) ?_; refine gmv rfl rfl rfl <| K.neq rfl rfl ((bne_eq_false_iff_eq.2 (by omega))) (.taken rfl rfl) ?_; refine kpf rfl rfl <| kmv rfl <| gmv rfl rfl rfl <| K.callR [(1000000, 500)] (r6) rfl rfl (by exact (And.intro ⟨_, rfl, rfl⟩ trivial)) (by exact (all_cons_true rfl rfl)) rfl rfl rfl rfl (.taken rfl rfl) ?_; refine gmv rfl rfl rfl <| K.neq rfl rfl ((bne_eq_false_iff_eq.2 (by omega))) (.taken rfl rfl) ?_; refine kpf rfl rfl <| RunK.nil <| And.intro (by kernel_rfl) ?_; refine LWP.condF rfl ?_; refine LWP.skip ?_; refine LWP.region (by kernel_rfl) <| kmv rfl <| kad rfl rfl (wrap_i64 (by omega)) <| kas rfl <| RunK.nil ?_)
  exact ⟨_, _, by omega, Le.of (by exact ⟨rfl, rfl, rfl, rfl, rfl, rfl, trivial⟩) (by exact ⟨rfl, rfl, trivial⟩) (by exact rfl) (by exact rfl) (by repeat' (first | refine all_cons_true ?_ ?_ | rfl | exact bytes_inUse | exact vals_inUse | exact mid_inUse rfl)), i + 1, M, M.length, ad', cp', Z, rfl, by omega, by omega, hM, rfl, fun b o h => hYZ b o (hXY b o h), hSZ, rfl⟩
end Go.Proofs.Ytdlilapjijpghaa
end
section
-- ColumnApart
namespace Go.Lg.Col
open Go Go.Lg
/-- a text of so many bytes: points behind it, or cut -/
def padC (n : Nat) (s : List UInt8) : List UInt8 := (s ++ List.replicate (n - s.length) 46).take n
theorem padC_len (n : Nat) (s : List UInt8) : (padC n s).length = n := by unfold padC; simp; omega
end Go.Lg.Col
namespace Go.Proofs.Ytdlilapjijpghaa
open Go Go.Lg Go.Lg.Col
set_option maxRecDepth 100000
variable (X : Nat → Option Obj)
/-- two rows of texts, lent both -/
theorem rows_lent2 {S : Nat → Option (Option Box)} {k k2 : Nat} {A B : List (List UInt8)} {el el2 : TypeId} {row row2 : Bool} {r : Bool} (hb : A.length < 4611686018427387904) (hb2 : B.length < 4611686018427387904) (hk : S k = some (some ⟨el, (txV A).map .val, row⟩)) (hk2 : S k2 = some (some ⟨el2, (txV B).map .val, row2⟩)) (hr : (A == B) = r) :
    ∀ (Y : Nat → Option Obj) (us : List Value), (∀ b o, X b = some o → Y b = some o) → Lent S Y [.sv (.one (.slc k 0 A.length)), .sv (.one (.slc k2 0 B.length))] us → PSpec Try.prog Y 21 (us.map toLV) (Lb r) := by
  intro Y us hY hL
  obtain ⟨u1, us1, rfl, h1, u2, us2, rfl, h2, rfl⟩ := hL
  obtain ⟨el', cells, row', hk', blk, cap, arr, fr, us', sp, rfl, hYb, hc, hfit, harr, hv⟩ := h1
  obtain ⟨el'', cells2, row'', hk'', blk2, cap2, arr2, fr2, us'', sp2, rfl, hYb2, hc2, hfit2, harr2, hv2⟩ := h2
  rw [hk] at hk'
  rw [hk2] at hk''
  simp only [Option.some.injEq, Box.mk.injEq] at hk' hk''
  obtain ⟨rfl, rfl, rfl⟩ := hk'
  obtain ⟨rfl, rfl, rfl⟩ := hk''
  have := hv (txV A) rfl
  subst this
  have := hv2 (txV B) rfl
  subst this
  subst hr
  exact rows_spec Y (some ⟨blk, 0, none⟩) (some ⟨blk2, 0, none⟩) cap cap2 A B (one_in hYb ⟨sp, harr⟩) (one_in hYb2 ⟨sp2, harr2⟩) hb hb2
set_option maxHeartbeats 12800000 in
theorem ColumnApart_spec (ad : Option Addr) (cp : Nat) (A : List (List UInt8)) (at' : Int) (row : List UInt8) (hA : OneIn X ad (txV A)) : PSpec Try.prog X 5 [Tx ad A.length cp, Ln .i64 at', Ls row] (Lb true) := by
  have hW := cawake_spec X
  refine PSpec.intro Try.func5 rfl (by kernel_rfl) rfl rfl ?_
  intro C
  by_cases h60 : 60 < A.length
  · (refine LWP.seq <| LWP.region (by kernel_rfl) <| kas rfl <| RunK.nil <| LWP.seq <| LWP.seq <| LWP.region (by kernel_rfl) <| kca rfl rfl (hW) <| K.not rfl rfl .plain <| RunK.nil <| LWP.condF rfl ?_; refine LWP.skip ?_; refine LWP.seq <| LWP.seq <| LWP.region (by kernel_rfl) <| kmv rfl <| K.lenX rfl SliceT.h rfl .plain ?_; refine K.gtr rfl rfl (decide_eq_true (by omega)) .plain <| kmv rfl <| RunK.passed rfl rfl rfl <| RunK.passed rfl rfl rfl <| RunK.passed rfl rfl rfl <| kpt rfl rfl <| kmv rfl <| RunK.passed rfl rfl rfl <| RunK.passed rfl rfl rfl <| RunK.passed rfl rfl rfl <| kpt rfl rfl <| RunK.nil <| LWP.condT rfl ?_; refine LWP.seq <| LWP.region (by kernel_rfl) <| kas rfl <| RunK.nil <| LWP.ret ?_)
    exact ⟨[_], ⟨rfl, trivial⟩, rfl⟩
  by_cases h0 : A.length = 0
  · (refine LWP.seq <| LWP.region (by kernel_rfl) <| kas rfl <| RunK.nil <| LWP.seq <| LWP.seq <| LWP.region (by kernel_rfl) <| kca rfl rfl (hW) <| K.not rfl rfl .plain <| RunK.nil <| LWP.condF rfl ?_; refine LWP.skip ?_; refine LWP.seq <| LWP.seq <| LWP.region (by kernel_rfl) <| kmv rfl <| K.lenX rfl SliceT.h rfl .plain ?_; refine K.gtr rfl rfl (decide_eq_false (by omega)) .plain <| kmv rfl <| gmv rfl rfl rfl <| K.lenX rfl SliceT.h rfl (.taken rfl rfl) ?_; refine K.eql rfl rfl (r := true) (by rw [h0]; rfl) (.taken rfl rfl) ?_; refine kpf rfl rfl <| kmv rfl <| RunK.passed rfl rfl rfl <| RunK.passed rfl rfl rfl <| RunK.passed rfl rfl rfl <| kpt rfl rfl <| RunK.nil <| LWP.condT rfl ?_; refine LWP.seq <| LWP.region (by kernel_rfl) <| kas rfl <| RunK.nil <| LWP.ret ?_)
    exact ⟨[_], ⟨rfl, trivial⟩, rfl⟩
  by_cases h20 : 20 < row.length
  · (refine LWP.seq <| LWP.region (by kernel_rfl) <| kas rfl <| RunK.nil <| LWP.seq <| LWP.seq <| LWP.region (by kernel_rfl) <| kca rfl rfl (hW) <| K.not rfl rfl .plain <| RunK.nil <| LWP.condF rfl ?_; refine LWP.skip ?_; refine LWP.seq <| LWP.seq <| LWP.region (by kernel_rfl) <| kmv rfl <| K.lenX rfl SliceT.h rfl .plain ?_; refine K.gtr rfl rfl (decide_eq_false (by omega)) .plain <| kmv rfl <| gmv rfl rfl rfl <| K.lenX rfl SliceT.h rfl (.taken rfl rfl) ?_; refine K.eql rfl rfl (r := false) (by rw [beq_eq_false_iff_ne]; omega) (.taken rfl rfl) ?_; refine kpf rfl rfl <| kmv rfl <| gmv rfl rfl rfl <| K.lenStr rfl (.taken rfl rfl) ?_; refine K.gtr rfl rfl (decide_eq_true (by show (20 : Int) < (row.length : Nat); omega)) (.taken rfl rfl) ?_; refine kpf rfl rfl <| RunK.nil <| LWP.condT rfl ?_; refine LWP.seq <| LWP.region (by kernel_rfl) <| kas rfl <| RunK.nil <| LWP.ret ?_)
    exact ⟨[_], ⟨rfl, trivial⟩, rfl⟩
  have hN := cNew_ok X row.length 60 (by omega) (by omega) (by omega)
  (refine LWP.seq <| LWP.region (by kernel_rfl) <| kas rfl <| RunK.nil <| LWP.seq <| LWP.seq <| LWP.region (by kernel_rfl) <| kca rfl rfl (hW) <| K.not rfl rfl .plain <| RunK.nil <| LWP.condF rfl ?_; refine LWP.skip ?_; refine LWP.seq <| LWP.seq <| LWP.region (by kernel_rfl) <| kmv rfl <| K.lenX rfl SliceT.h rfl .plain ?_; refine K.gtr rfl rfl (decide_eq_false (by omega)) .plain <| kmv rfl <| gmv rfl rfl rfl <| K.lenX rfl SliceT.h rfl (.taken rfl rfl) ?_; refine K.eql rfl rfl (r := false) (by rw [beq_eq_false_iff_ne]; omega) (.taken rfl rfl) ?_; refine kpf rfl rfl <| kmv rfl <| gmv rfl rfl rfl <| K.lenStr rfl (.taken rfl rfl) ?_; refine K.gtr rfl rfl (decide_eq_false (by show ¬ (20 : Int) < (row.length : Nat); omega)) (.taken rfl rfl) ?_; refine kpf rfl rfl <| RunK.nil <| LWP.condF rfl ?_; refine LWP.skip ?_; refine LWP.seq <| LWP.region (by kernel_rfl) <| kmv rfl <| kln rfl <| K.callMp [(1000001, 500)] (Lp 500) [cB 500 row.length 60 []] (hN) rfl rfl (by exact trivial) rfl rfl rfl rfl rfl (by exact (.box rfl rfl .nil)) .plain <| kas rfl <| RunK.nil <| LWP.seq <| LWP.seq <| LWP.region (by kernel_rfl) <| kas rfl <| RunK.nil <| LWP.block ?_)
  refine LWP.loop (fun m σ => ∃ i : Nat, i ≤ A.length ∧ m = A.length - i ∧ σ = ⟨[(0, Tx ad A.length cp), (1, Ln .i64 at'), (2, Ls row), (7, Lp 500), (8, Ln .i64 (i : Nat))], [cB 500 row.length 60 ((A.take i).map (padC row.length))], X⟩) A.length
    ⟨_, Le.of (by exact ⟨rfl, rfl, rfl, rfl, rfl, trivial⟩) (by exact ⟨rfl, trivial⟩) (by exact rfl) (by exact rfl) (by repeat' (first | refine all_cons_true ?_ ?_ | rfl | exact bytes_inUse | exact vals_inUse | exact mid_inUse rfl)), 0, by omega, by omega, rfl⟩ ?_
  rintro m σ ⟨i, hi, rfl, rfl⟩
  by_cases hlt : i < A.length
  · obtain ⟨s, hs⟩ : ∃ s, A[i]? = some s := ⟨_, List.getElem?_eq_getElem hlt⟩
    obtain ⟨blk, off, arr, el, fr, rfl, hX, hc⟩ := hA i _ (txV_at hs)
    have hio : off + Int.toNat (i : Int) * 1 = off + i := by simp
    (refine LWP.seq <| LWP.seq <| LWP.region (by kernel_rfl) <| kmv rfl <| kmv rfl <| K.lenX rfl SliceT.h rfl .plain ?_; refine klt rfl rfl (decide_eq_true (by omega)) <| RunK.nil <| LWP.condT rfl ?_; refine LWP.skip ?_; refine LWP.seq <| LWP.block <| LWP.seq <| LWP.region (by kernel_rfl) <| kmv rfl <| kmv rfl <| K.indexX rfl rfl SliceT.h (by omega) hio .plain <| K.loadX rfl hX rfl hc .plain <| kas rfl <| RunK.nil <| LWP.seq <| LWP.block ?_)
    refine LWP.loop (fun m σ => ∃ j : Nat, j ≤ row.length - s.length ∧ m = (row.length - s.length) - j ∧ σ = ⟨[(0, Tx (some ⟨blk, off, none⟩) A.length cp), (1, Ln .i64 at'), (2, Ls row), (7, Lp 500), (8, Ln .i64 (i : Nat)), (9, Ls (s ++ List.replicate j 46))], [cB 500 row.length 60 ((A.take i).map (padC row.length))], X⟩) (row.length - s.length)
      ⟨_, Le.of (by exact ⟨rfl, rfl, rfl, rfl, rfl, by rw [List.replicate_zero, List.append_nil]; rfl, trivial⟩) (by exact ⟨rfl, trivial⟩) (by exact rfl) (by exact rfl) (by exact rfl), 0, by omega, by omega, rfl⟩ ?_
    rintro m σ ⟨j, hj, rfl, rfl⟩
    have hjl : (s ++ List.replicate j (46 : UInt8)).length = s.length + j := by simp
    by_cases hjn : s.length + j < row.length
    · have hadd : (⟨(s ++ List.replicate j (46 : UInt8)).toArray⟩ : ByteArray) ++ ⟨#[46]⟩ = ⟨(s ++ List.replicate (j + 1) (46 : UInt8)).toArray⟩ := by
        rw [show (⟨#[46]⟩ : ByteArray) = ⟨[46].toArray⟩ from rfl, str_add, List.append_assoc, List.replicate_succ']
      (refine LWP.seq <| LWP.seq <| LWP.region (by kernel_rfl) <| kmv rfl <| kln rfl <| kmv rfl <| kln rfl <| klt rfl rfl (decide_eq_true (by show (((s ++ List.replicate j (46 : UInt8)).length : Nat) : Int) < (row.length : Nat); omega)) <| RunK.nil <| LWP.condT rfl ?_; refine LWP.skip ?_; refine LWP.block <| LWP.region (by kernel_rfl) <| kmv rfl <| K.strAdd rfl rfl (by show (s ++ List.replicate j (46 : UInt8)).length + 1 ≤ _; omega) hadd .plain <| kas rfl <| RunK.nil ?_)
      exact ⟨_, _, by omega, Le.of (by exact ⟨rfl, rfl, rfl, rfl, rfl, rfl, trivial⟩) (by exact ⟨rfl, trivial⟩) (by exact rfl) (by exact rfl) (by repeat' (first | refine all_cons_true ?_ ?_ | rfl | exact bytes_inUse | exact vals_inUse | exact mid_inUse rfl)), j + 1, by omega, rfl, rfl⟩
    · have e : j = row.length - s.length := by omega
      subst e
      have hcut : (⟨(s ++ List.replicate (row.length - s.length) (46 : UInt8)).toArray⟩ : ByteArray).extract 0 row.length = ⟨(padC row.length s).toArray⟩ := by rw [str_cut]; rfl
      have hlen : ((A.take i).map (padC row.length)).length = i := by rw [List.length_map, List.length_take]; omega
      have hap : appE row.length 60 ((A.take i).map (padC row.length)).length (padC row.length s) = 0 := by
        unfold appE
        rw [if_neg (by rw [padC_len]; omega), if_neg (by rw [hlen]; omega)]
      have hAp := cAppend_ok X row.length 60 ((A.take i).map (padC row.length)) (padC row.length s) hap
      rw [show (A.take i).map (padC row.length) ++ [padC row.length s] = (A.take (i + 1)).map (padC row.length) by rw [snoc hs, List.map_append]; rfl] at hAp
      (refine LWP.seq <| LWP.seq <| LWP.region (by kernel_rfl) <| kmv rfl <| kln rfl <| kmv rfl <| kln rfl <| klt rfl rfl (decide_eq_false (by show ¬ (((s ++ List.replicate (row.length - s.length) (46 : UInt8)).length : Nat) : Int) < (row.length : Nat); omega)) <| RunK.nil <| LWP.condF rfl ?_; refine LWP.exit <| LWP.seq <| LWP.region (by kernel_rfl) <| kmv rfl <| kmv rfl <| kmv rfl <| kln rfl <| K.sliceStr (l := 0) (h := row.length) (kl := .i64) (kh := .i64) rfl StrT.u rfl rfl ⟨(by omega), (by show row.length ≤ (s ++ List.replicate (row.length - s.length) (46 : UInt8)).length; omega)⟩ hcut .plain <| K.callM [(1000000, 500)] [cB 500 row.length 60 ((A.take (i + 1)).map (padC row.length))] (hAp) rfl rfl (by exact (And.intro ⟨_, rfl, rfl⟩ trivial)) (by exact (all_cons_true rfl rfl)) rfl rfl rfl rfl (by exact (.box rfl rfl .nil)) .plain <| kne rfl rfl ((bne_eq_false_iff_eq.2 (by omega))) <| RunK.nil <| LWP.condF rfl ?_; refine LWP.skip ?_; refine LWP.region (by kernel_rfl) <| kmv rfl <| kad rfl rfl (wrap_i64 (by omega)) <| kas rfl <| RunK.nil ?_)
      exact ⟨_, _, by omega, Le.of (by exact ⟨rfl, rfl, rfl, rfl, rfl, trivial⟩) (by exact ⟨rfl, trivial⟩) (by exact rfl) (by exact rfl) (by repeat' (first | refine all_cons_true ?_ ?_ | rfl | exact bytes_inUse | exact vals_inUse | exact mid_inUse rfl)), i + 1, by omega, rfl, rfl⟩
  · have e : i = A.length := by omega
    subst e
    rw [List.take_length]
    have hPl : (A.map (padC row.length)).length = A.length := List.length_map _
    have hPall : ∀ p ∈ A.map (padC row.length), p.length = row.length := fun p hp => by
      obtain ⟨s, _, rfl⟩ := List.mem_map.1 hp; exact padC_len _ _
    generalize A.map (padC row.length) = P at *
    have r1 := cRows_spec X row.length 60 P
    (refine LWP.seq <| LWP.seq <| LWP.region (by kernel_rfl) <| kmv rfl <| kmv rfl <| K.lenX rfl SliceT.h rfl .plain ?_; refine klt rfl rfl (decide_eq_false (by omega)) <| RunK.nil <| LWP.condF rfl ?_; refine LWP.exit <| LWP.seq <| LWP.region (by kernel_rfl) <| kmv rfl <| K.callMp [(1000000, 500), (1000001, 501)] (.sv (.one (.slc 501 0 P.length))) [cB 500 row.length 60 P, rwB 501 P] (r1) rfl rfl (by exact (And.intro ⟨_, rfl, rfl⟩ trivial)) (by exact (all_cons_true rfl rfl)) rfl rfl rfl rfl (by exact (.box rfl rfl (.box rfl (Box.ren_vals _ _ _ _) .nil))) .plain <| kas rfl <| RunK.nil <| LWP.seq ?_)
    obtain ⟨k, hk, hk1, hk2⟩ : ∃ k : Nat, k < P.length ∧ (IntKind.u64.wrap at').tmod (P.length : Nat) = (k : Nat) ∧ IntKind.i64.wrap (k : Nat) = (k : Nat) := by
      have h1 : 0 ≤ IntKind.u64.wrap at' := by rw [IntKind.wrap_u64]; exact Int.emod_nonneg _ (by decide)
      refine ⟨(IntKind.u64.wrap at' % (P.length : Nat)).toNat, ?_, ?_, wrap_i64 ?_⟩
      · have := Int.emod_lt_of_pos (IntKind.u64.wrap at') (show (0 : Int) < (P.length : Nat) by omega)
        have := Int.emod_nonneg (IntKind.u64.wrap at') (show ((P.length : Nat) : Int) ≠ 0 by omega)
        omega
      · have := Int.emod_nonneg (IntKind.u64.wrap at') (show ((P.length : Nat) : Int) ≠ 0 by omega)
        rw [Int.tmod_eq_emod_of_nonneg h1]; omega
      · have := Int.emod_lt_of_pos (IntKind.u64.wrap at') (show (0 : Int) < (P.length : Nat) by omega)
        have := Int.emod_nonneg (IntKind.u64.wrap at') (show ((P.length : Nat) : Int) ≠ 0 by omega)
        omega
    have hwl : IntKind.u64.wrap (P.length : Nat) = (P.length : Nat) := wrap_u64 (by omega)
    have r2 := cClone_spec X row.length 60 P
    have r3 := cSet_ok X row.length 60 P k row hk rfl
    have r4 := cRows_spec X row.length 60 (P.set k row)
    rw [List.length_set] at r4
    have hR := fun S row row2 hk hk2 => rows_lent2 X (S := S) (k := 503) (k2 := 501) (el := 9) (el2 := 9) (row := row) (row2 := row2) (A := P) (B := P) (r := true) (by omega) (by omega) hk hk2 (by simp)
    (refine LWP.region (by kernel_rfl) <| kmv rfl <| kcv rfl rfl ?_; refine kmv rfl <| K.lenSlc rfl SliceT.h rfl .plain ?_; refine kcv rfl hwl ?_; refine K.rem rfl rfl (by omega) hk1 .plain <| kcv rfl hk2 ?_; refine kas rfl <| RunK.nil <| LWP.seq <| LWP.region (by kernel_rfl) <| kmv rfl <| K.callMp [(1000000, 500), (1000001, 502)] (Lp 502) [cB 500 row.length 60 P, cB 502 row.length 60 P] (r2) rfl rfl (by exact (And.intro ⟨_, rfl, rfl⟩ trivial)) (by exact (all_cons_true rfl rfl)) rfl rfl rfl rfl (by exact (.box rfl rfl (.box rfl rfl .nil))) .plain <| kas rfl <| RunK.nil <| LWP.seq <| LWP.seq <| LWP.region (by kernel_rfl) <| kmv rfl <| kmv rfl <| kmv rfl ?_; refine K.callM [(1000000, 502)] [cB 502 row.length 60 (P.set k row)] (r3) rfl rfl (by exact (And.intro ⟨_, rfl, rfl⟩ trivial)) (by exact (all_cons_true rfl rfl)) rfl rfl rfl rfl (by exact (.box rfl rfl .nil)) .plain <| kne rfl rfl ((bne_eq_false_iff_eq.2 (by omega))) <| kmv rfl <| gmv rfl rfl rfl <| K.callMp [(1000000, 500), (1000001, 503)] (.sv (.one (.slc 503 0 P.length))) [cB 500 row.length 60 P, rwB 503 P] (r1) rfl rfl (by exact (And.intro ⟨_, rfl, rfl⟩ trivial)) (by exact (all_cons_true rfl rfl)) rfl rfl rfl rfl (by exact (.box rfl rfl (.box rfl (Box.ren_vals _ _ _ _) .nil))) (.taken rfl rfl) ?_; refine gmv rfl rfl rfl <| K.callX [503, 501] rfl rfl rfl (hR _ _ _ rfl rfl) (.taken rfl rfl) ?_; refine K.not rfl rfl (.taken rfl rfl) ?_; refine kpf rfl rfl <| RunK.nil <| LWP.condF rfl ?_; refine LWP.skip ?_; refine LWP.seq <| LWP.region (by kernel_rfl) <| kmv rfl <| K.callMp [(1000000, 502), (1000001, 504)] (.sv (.one (.slc 504 0 P.length))) [cB 502 row.length 60 (P.set k row), rwB 504 (P.set k row)] (r4) rfl rfl (by exact (And.intro ⟨_, rfl, rfl⟩ trivial)) (by exact (all_cons_true rfl rfl)) rfl rfl rfl rfl (by exact (.box rfl rfl (.box rfl (Box.ren_vals _ _ _ _) .nil))) .plain <| kas rfl <| RunK.nil <| LWP.seq <| LWP.seq <| LWP.region (by kernel_rfl) <| kas rfl <| RunK.nil <| LWP.block ?_)
    refine LWP.loop (fun m σ => ∃ i : Nat, i ≤ P.length ∧ m = P.length - i ∧ σ = ⟨[(2, Ls row), (10, .sv (.one (.slc 501 0 P.length))), (11, Ln .i64 (k : Nat)), (13, .sv (.one (.slc 504 0 P.length))), (14, Ln .i64 (i : Nat))], [rwB 501 P, rwB 504 (P.set k row)], X⟩) P.length
      ⟨_, Le.of (by exact ⟨rfl, rfl, rfl, rfl, rfl, trivial⟩) (by exact ⟨rfl, rfl, trivial⟩) (by exact rfl) (by exact rfl) (by repeat' (first | refine all_cons_true ?_ ?_ | rfl | exact bytes_inUse | exact vals_inUse | exact mid_inUse rfl)), 0, by omega, by omega, rfl⟩ ?_
    rintro m σ ⟨i, hi, rfl, rfl⟩
    by_cases hlt : i < P.length
    · have hi1 : 0 + Int.toNat (i : Int) * 1 = i := by simp
      by_cases hik : i = k
      · subst hik
        have ha : (P.set i row)[i]? = some row := by rw [List.getElem?_set_self hlt]
        (refine LWP.seq <| LWP.seq <| LWP.region (by kernel_rfl) <| kmv rfl <| kmv rfl <| K.lenSlc rfl SliceT.h rfl .plain ?_; refine klt rfl rfl (decide_eq_true (by omega)) <| RunK.nil <| LWP.condT rfl ?_; refine LWP.skip ?_; refine LWP.seq <| LWP.block <| LWP.seq <| LWP.draws mixed (by kernel_rfl) <| kmv rfl <| kmv rfl <| keq rfl rfl (r := true) (by simp) <| kmv rfl <| gmv rfl rfl rfl <| gmv rfl rfl rfl <| K.indexSlc rfl rfl (by omega) hi1 (.taken rfl rfl) ?_; refine K.loadOne rfl rfl (txC_at ha) (.taken rfl rfl) ?_; refine gmv rfl rfl rfl <| K.strNe rfl rfl (strs_ne (r := false) (by simp)) (.taken rfl rfl) ?_; refine kpt rfl rfl <| kmv rfl <| gmv rfl rfl rfl <| gmv rfl rfl rfl <| K.neq rfl rfl (r := false) (by simp) (.taken rfl rfl) ?_; refine gmv rfl rfl rfl <| RunK.passed rfl rfl rfl <| RunK.passed rfl rfl rfl <| RunK.passed rfl rfl rfl <| RunK.passed rfl rfl rfl <| RunK.passed rfl rfl rfl <| RunK.passed rfl rfl rfl <| RunK.passed rfl rfl rfl <| RunK.passed rfl rfl rfl <| RunK.passed rfl rfl rfl <| K.pickF rfl rfl (.taken rfl rfl) ?_; refine kpf rfl rfl <| RunK.nil <| And.intro (by kernel_rfl) ?_; refine LWP.condF rfl ?_; refine LWP.skip ?_; refine LWP.region (by kernel_rfl) <| kmv rfl <| kad rfl rfl (wrap_i64 (by omega)) <| kas rfl <| RunK.nil ?_)
        exact ⟨_, _, by omega, Le.of (by exact ⟨rfl, rfl, rfl, rfl, rfl, trivial⟩) (by exact ⟨rfl, rfl, trivial⟩) (by exact rfl) (by exact rfl) (by repeat' (first | refine all_cons_true ?_ ?_ | rfl | exact bytes_inUse | exact vals_inUse | exact mid_inUse rfl)), i + 1, by omega, rfl, rfl⟩
      · obtain ⟨p, hp⟩ : ∃ p, P[i]? = some p := ⟨_, List.getElem?_eq_getElem hlt⟩
        have ha : (P.set k row)[i]? = some p := by rw [List.getElem?_set_ne (fun e => hik e.symm)]; exact hp
        (refine LWP.seq <| LWP.seq <| LWP.region (by kernel_rfl) <| kmv rfl <| kmv rfl <| K.lenSlc rfl SliceT.h rfl .plain ?_; refine klt rfl rfl (decide_eq_true (by omega)) <| RunK.nil <| LWP.condT rfl ?_; refine LWP.skip ?_; refine LWP.seq <| LWP.block <| LWP.seq <| LWP.draws mixed (by kernel_rfl) <| kmv rfl <| kmv rfl <| keq rfl rfl (r := false) (by rw [beq_eq_false_iff_ne]; omega) <| kmv rfl <| RunK.passed rfl rfl rfl <| RunK.passed rfl rfl rfl <| RunK.passed rfl rfl rfl <| RunK.passed rfl rfl rfl <| RunK.passed rfl rfl rfl <| RunK.passed rfl rfl rfl ?_; refine kpf rfl rfl <| kmv rfl <| gmv rfl rfl rfl <| gmv rfl rfl rfl <| K.neq rfl rfl (r := true) (by rw [bne_iff_ne]; omega) (.taken rfl rfl) ?_; refine gmv rfl rfl rfl <| gmv rfl rfl rfl <| gmv rfl rfl rfl <| K.indexSlc rfl rfl (by omega) hi1 (.taken rfl rfl) ?_; refine K.loadOne rfl rfl (txC_at ha) (.taken rfl rfl) ?_; refine gmv rfl rfl rfl <| gmv rfl rfl rfl <| K.indexSlc rfl rfl (by omega) hi1 (.taken rfl rfl) ?_; refine K.loadOne rfl rfl (txC_at hp) (.taken rfl rfl) ?_; refine K.strNe rfl rfl (strs_ne (r := false) (by simp)) (.taken rfl rfl) ?_; refine K.pickT rfl rfl (.taken rfl rfl) ?_; refine kpf rfl rfl <| RunK.nil <| And.intro (by kernel_rfl) ?_; refine LWP.condF rfl ?_; refine LWP.skip ?_; refine LWP.region (by kernel_rfl) <| kmv rfl <| kad rfl rfl (wrap_i64 (by omega)) <| kas rfl <| RunK.nil ?_)
        exact ⟨_, _, by omega, Le.of (by exact ⟨rfl, rfl, rfl, rfl, rfl, trivial⟩) (by exact ⟨rfl, rfl, trivial⟩) (by exact rfl) (by exact rfl) (by repeat' (first | refine all_cons_true ?_ ?_ | rfl | exact bytes_inUse | exact vals_inUse | exact mid_inUse rfl)), i + 1, by omega, rfl, rfl⟩
    · have e : i = P.length := by omega
      subst e
      (refine LWP.seq <| LWP.seq <| LWP.region (by kernel_rfl) <| kmv rfl <| kmv rfl <| K.lenSlc rfl SliceT.h rfl .plain ?_; refine klt rfl rfl (decide_eq_false (by omega)) <| RunK.nil <| LWP.condF rfl ?_; refine LWP.exit <| LWP.seq <| LWP.region (by kernel_rfl) <| kmv rfl <| K.lenSlc rfl SliceT.h rfl .plain ?_; refine kmv rfl <| K.lenSlc rfl SliceT.h rfl .plain ?_; refine keq rfl rfl (r := true) (by simp) <| kas rfl <| RunK.nil <| LWP.ret ?_)
      exact ⟨[_], ⟨rfl, trivial⟩, rfl⟩
end Go.Proofs.Ytdlilapjijpghaa
end
section
-- ColumnKeeps
namespace Go.Lg.Col
open Go Go.Lg
/-- an element that a number in a row stands for -/
theorem nodup_ix {α : Type} {L : List α} (h : L.Nodup) {i j : Nat} {x : α} (hi : L[i]? = some x) (hj : L[j]? = some x) : i = j := by
  obtain ⟨hi, hie⟩ := List.getElem?_eq_some_iff.1 hi
  obtain ⟨hjj, hje⟩ := List.getElem?_eq_some_iff.1 hj
  have hp := List.pairwise_iff_getElem.1 h
  rcases Nat.lt_trichotomy i j with h | h | h
  · exact absurd (hie.trans hje.symm) (hp i j hi hjj h)
  · exact h
  · exact absurd (hje.trans hie.symm) (hp j i hjj hi h)
theorem swap_at {L : List (List UInt8)} {k : Nat} (hk : k < L.length) {j : Nat} {x : List UInt8} (hx : (swapL L k)[j]? = some x) : j < L.length - 1 ∧ L[if j = k then L.length - 1 else j]? = some x := by
  obtain ⟨l, hl⟩ : ∃ l, L[L.length - 1]? = some l := ⟨_, List.getElem?_eq_getElem (by omega)⟩
  rw [swapL_at hl, List.getElem?_take] at hx
  split at hx
  · rename_i hj
    refine ⟨hj, ?_⟩
    by_cases e : j = k
    · subst e
      rw [List.getElem?_set_self hk] at hx
      rw [if_pos rfl, hl]; exact hx
    · rw [List.getElem?_set_ne (fun e' => e e'.symm)] at hx
      rw [if_neg e]; exact hx
  · cases hx
theorem swap_nodup {L : List (List UInt8)} {k : Nat} (h : L.Nodup) (hk : k < L.length) : (swapL L k).Nodup := by
  refine List.pairwise_iff_getElem.2 fun i j hi hj hij e => ?_
  have h1 := swap_at hk (List.getElem?_eq_getElem hi)
  have h2 := swap_at hk (List.getElem?_eq_getElem hj)
  rw [e] at h1
  have := nodup_ix h h1.2 h2.2
  split at this <;> split at this <;> omega
theorem swap_mem {L : List (List UInt8)} {k : Nat} (h : L.Nodup) (hk : k < L.length) {s : List UInt8} (hs : L[k]? = some s) {x : List UInt8} (hx : x ∈ swapL L k) : x ∈ L ∧ x ≠ s := by
  obtain ⟨j, hj⟩ := List.mem_iff_getElem?.1 hx
  have h1 := swap_at hk hj
  refine ⟨List.mem_of_getElem? h1.2, fun e => ?_⟩
  subst e
  have := nodup_ix h h1.2 hs
  split at this <;> omega
abbrev one1 : Value := .int .i64 1
theorem put_ex (m : List (Value × Value)) (key v : Value) : ∃ m', Put m key v m' := by
  by_cases h : ∃ p ∈ m, p.1 = key
  · obtain ⟨⟨a, b⟩, hp, rfl⟩ := h
    obtain ⟨i, hi⟩ := List.mem_iff_getElem?.1 hp
    exact ⟨_, .inl ⟨i, b, hi, rfl⟩⟩
  · exact ⟨_, .inr ⟨fun p hp e => h ⟨p, hp, e⟩, rfl⟩⟩
theorem put_at {m m' : List (Value × Value)} {key v : Value} (h : Put m key v m') : (key, v) ∈ m' := by
  rcases h with ⟨i, old, hi, rfl⟩ | ⟨_, rfl⟩
  · exact List.mem_of_getElem? (by rw [List.getElem?_set_self (List.getElem?_eq_some_iff.1 hi).1])
  · simp
theorem put_keep {m m' : List (Value × Value)} {key v k' u : Value} (h : Put m key v m') (hk : k' ≠ key) (hu : (k', u) ∈ m) : (k', u) ∈ m' := by
  rcases h with ⟨i, old, hi, rfl⟩ | ⟨_, rfl⟩
  · obtain ⟨j, hj⟩ := List.mem_iff_getElem?.1 hu
    refine List.mem_of_getElem? (i := j) ?_
    by_cases e : i = j
    · subst e; rw [hi] at hj; simp only [Option.some.injEq, Prod.mk.injEq] at hj; exact absurd hj.1.symm hk
    · rw [List.getElem?_set_ne e]; exact hj
  · exact List.mem_append_left _ hu
theorem strV_inj {a b : List UInt8} (h : strV a = strV b) : a = b := by
  simp only [Value.string.injEq, ByteArray.mk.injEq] at h
  exact List.toArray_inj h
/-- what is marked by a number -/
def mrk (i : Nat) : List UInt8 := [UInt8.ofNat (i % 256), UInt8.ofNat (i / 256 % 256)]
theorem mrk_inj {i j : Nat} (hi : i < 256) (hj : j < 256) (h : mrk i = mrk j) : i = j := by
  unfold mrk at h
  simp only [List.cons.injEq] at h
  have h1 := congrArg UInt8.toNat h.1
  simp at h1
  omega
end Go.Lg.Col
end
section
-- ColumnKeeps: the law
namespace Go.Lg.Col
open Go Go.Lg
theorem mrk_len (i : Nat) : (mrk i).length = 2 := rfl
theorem u8n (n : Nat) : IntKind.u8.wrap (n : Nat) = ((UInt8.ofNat (n % 256)).toNat : Nat) := by
  rw [IntKind.wrap_u8]
  have : (UInt8.ofNat (n % 256)).toNat = n % 256 := by simp
  rw [this]; omega
theorem u_mod (a : Int) (n : Nat) (h : 0 < n) (hn : n < 4611686018427387904) : ∃ k : Nat, k < n ∧ (IntKind.u64.wrap a).tmod (n : Nat) = (k : Nat) ∧ IntKind.i64.wrap (k : Nat) = (k : Nat) := by
  have h1 : 0 ≤ IntKind.u64.wrap a := by rw [IntKind.wrap_u64]; exact Int.emod_nonneg _ (by decide)
  have h2 := Int.emod_lt_of_pos (IntKind.u64.wrap a) (show (0 : Int) < (n : Nat) by omega)
  have h3 := Int.emod_nonneg (IntKind.u64.wrap a) (show ((n : Nat) : Int) ≠ 0 by omega)
  refine ⟨(IntKind.u64.wrap a % (n : Nat)).toNat, by omega, ?_, wrap_i64 (by omega)⟩
  rw [Int.tmod_eq_emod_of_nonneg h1]; omega
end Go.Lg.Col
namespace Go.Proofs.Ytdlilapjijpghaa
open Go Go.Lg Go.Lg.Col
set_option maxRecDepth 100000
variable (X : Nat → Option Obj)
/-- a map -/
abbrev mB (k : Nat) (mm : List (Value × Value)) : Nat × Option Box := (k, some ⟨0, [], .res (mapR Try.prog 9 mm)⟩)
theorem str_law : WideMaps.KeyLaw Try.prog 9 := WideMaps.string_law (by kernel_rfl)
theorem key_ok {x : List UInt8} (h : x.length ≤ 1000000) : Go.keyOf Try.prog 9 (strV x) = some (.string x) :=
  WideMaps.keyOf_string_mk (by kernel_rfl) (Nat.le_trans (show (⟨x.toArray⟩ : ByteArray).size ≤ 1000000 from h) (by decide))
set_option maxHeartbeats 12800000 in
theorem ColumnKeeps_spec (most : Int) (ad : Option Addr) (cp : Nat) (ts : List Int) (hT : OneIn X ad (ts.map fun n => Value.int .i64 n)) : PSpec Try.prog X 4 [Ln .i64 most, Tx ad ts.length cp] (Lb true) := by
  have hW := cawake_spec X
  obtain ⟨j0, hj0, hq1, hq2⟩ := u_mod most 100 (by omega) (by omega)
  have hq3 : IntKind.i64.wrap (1 + (j0 : Nat)) = ((1 + j0 : Nat) : Int) := by rw [wrap_i64 (by omega)]; omega
  have hN := cNew_ok X 2 (1 + j0) (by omega) (by omega) (by omega)
  refine PSpec.intro Try.func4 rfl (by kernel_rfl) rfl rfl ?_
  intro C
  generalize hqq : 1 + j0 = q at *
  (refine LWP.seq <| LWP.region (by kernel_rfl) <| kas rfl <| RunK.nil <| LWP.seq <| LWP.seq <| LWP.region (by kernel_rfl) <| kca rfl rfl (hW) <| K.not rfl rfl .plain <| RunK.nil <| LWP.condF rfl ?_; refine LWP.skip ?_; refine LWP.seq <| LWP.region (by kernel_rfl) <| kmv rfl <| kcv rfl rfl ?_; refine K.rem rfl rfl (by decide) hq1 .plain <| kcv rfl hq2 ?_; refine kad rfl rfl hq3 <| K.callMp [(1000001, 500)] (Lp 500) [cB 500 2 q []] (hN) rfl rfl (by exact trivial) rfl rfl rfl rfl rfl (by exact (.box rfl rfl .nil)) .plain <| kas rfl <| RunK.nil <| LWP.seq <| LWP.region (by kernel_rfl) <| K.makeMap 9 rfl .plain ?_; refine kas rfl <| RunK.nil <| LWP.seq <| LWP.region (by kernel_rfl) <| kas rfl <| RunK.nil <| LWP.seq <| LWP.seq <| LWP.region (by kernel_rfl) <| kas rfl <| RunK.nil <| LWP.block ?_)
  refine LWP.loop (fun m σ => ∃ (i : Nat) (L : List (List UInt8)) (ln : Nat) (mm : List (Value × Value)), ln = L.length ∧ i ≤ ts.length ∧ i ≤ 120 ∧ L.length ≤ q ∧ m = ts.length - i ∧ L.Nodup ∧ (∀ x ∈ L, ∃ j, j < i ∧ x = mrk j) ∧ (∀ x ∈ L, (strV x, one1) ∈ mm) ∧ σ = ⟨[(1, Tx ad ts.length cp), (5, Lp 500), (6, .sv (.one (.mp 31))), (7, Ln .i64 (ln : Nat)), (8, Ln .i64 (i : Nat))], [cB 500 2 q L, mB 31 mm], X⟩) ts.length
    ⟨_, Le.of (by exact ⟨rfl, rfl, rfl, rfl, rfl, trivial⟩) (by exact ⟨rfl, rfl, trivial⟩) (by exact rfl) (by exact rfl) (by repeat' (first | refine all_cons_true ?_ ?_ | rfl | exact bytes_inUse | exact vals_inUse | exact mid_inUse rfl)), 0, [], 0, [], rfl, by omega, by omega, by simp, by omega, List.nodup_nil, (fun _ h => by cases h), (fun _ h => by cases h), rfl⟩ ?_
  rintro m σ ⟨i, L, _, mm, rfl, hi, hi2, hLq, rfl, hnd, hmk, hM, rfl⟩
  by_cases hlt : ¬ i < ts.length
  · (refine LWP.seq <| LWP.seq <| LWP.region (by kernel_rfl) <| kmv rfl <| kmv rfl <| K.lenX rfl SliceT.h rfl .plain ?_; refine klt rfl rfl (decide_eq_false (by omega)) <| kmv rfl <| RunK.passed rfl rfl rfl <| RunK.passed rfl rfl rfl <| kpf rfl rfl <| RunK.nil <| LWP.condF rfl ?_; refine LWP.exit <| LWP.seq ?_)
    have r1 := cRows_spec X 2 q L
    (refine LWP.region (by kernel_rfl) <| kmv rfl <| K.callMp [(1000000, 500), (1000001, 503)] (.sv (.one (.slc 503 0 L.length))) [cB 500 2 q L, rwB 503 L] (r1) rfl rfl (by exact (And.intro ⟨_, rfl, rfl⟩ trivial)) (by exact (all_cons_true rfl rfl)) rfl rfl rfl rfl (by exact (.box rfl rfl (.box rfl (Box.ren_vals _ _ _ _) .nil))) .plain <| kas rfl <| RunK.nil <| LWP.seq <| LWP.seq <| LWP.region (by kernel_rfl) <| kas rfl <| RunK.nil <| LWP.block ?_)
    refine LWP.loop (fun m σ => ∃ (j : Nat) (mm : List (Value × Value)), j ≤ L.length ∧ m = L.length - j ∧ (∀ p x, j ≤ p → L[p]? = some x → (strV x, one1) ∈ mm) ∧ σ = ⟨[(6, .sv (.one (.mp 31))), (7, Ln .i64 (L.length : Nat)), (21, .sv (.one (.slc 503 0 L.length))), (22, Ln .i64 (j : Nat))], [rwB 503 L, mB 31 mm], X⟩) L.length
      ⟨_, Le.of (by exact ⟨rfl, rfl, rfl, rfl, trivial⟩) (by exact ⟨rfl, rfl, trivial⟩) (by exact rfl) (by exact rfl) (by repeat' (first | refine all_cons_true ?_ ?_ | rfl | exact bytes_inUse | exact vals_inUse | exact mid_inUse rfl)), 0, mm, by omega, by omega, (fun p x _ hx => hM x (List.mem_of_getElem? hx)), rfl⟩ ?_
    rintro m σ ⟨j, m2, hj, rfl, hm2, rfl⟩
    by_cases hjl : j < L.length
    · obtain ⟨x, hx⟩ : ∃ x, L[j]? = some x := ⟨_, List.getElem?_eq_getElem hjl⟩
      obtain ⟨m3, hput⟩ := put_ex m2 (strV x) (.int .i64 2)
      have hkey := key_ok (x := x) (by
        obtain ⟨j', _, e⟩ := hmk x (List.mem_of_getElem? hx)
        rw [e, mrk_len]; decide)
      have hi1 : 0 + Int.toNat (j : Int) * 1 = j := by simp
      have hm3 : ∀ p y, j + 1 ≤ p → L[p]? = some y → (strV y, one1) ∈ m3 := fun p y hp hy => put_keep hput (fun e => by
        have e2 := strV_inj e
        rw [e2] at hy
        have := nodup_ix hnd hy hx
        omega) (hm2 p y (by omega) hy)
      (refine LWP.seq <| LWP.seq <| LWP.region (by kernel_rfl) <| kmv rfl <| kmv rfl <| K.lenSlc rfl SliceT.h rfl .plain ?_; refine klt rfl rfl (decide_eq_true (by omega)) <| RunK.nil <| LWP.condT rfl ?_; refine LWP.skip ?_; refine LWP.seq <| LWP.block <| LWP.seq <| LWP.seq <| LWP.region (by kernel_rfl) <| kmv rfl <| kmv rfl <| kmv rfl <| K.indexSlc rfl rfl (by omega) hi1 .plain ?_; refine kl1 rfl rfl (txC_at hx) <| K.lookup (et := 3) (v := one1) (z := .int .i64 0) rfl rfl rfl (by kernel_rfl) str_law hkey (by kernel_rfl) (.inl (hm2 j x (Nat.le_refl _) hx)) .plain ?_; refine kne rfl rfl ((bne_eq_false_iff_eq.2 (by omega))) <| RunK.nil <| LWP.condF rfl ?_; refine LWP.skip ?_; refine LWP.region (by kernel_rfl) <| kmv rfl <| kmv rfl <| kmv rfl <| K.indexSlc rfl rfl (by omega) hi1 .plain ?_; refine kl1 rfl rfl (txC_at hx) <| K.mapUpdate (et := 3) m3 rfl rfl rfl rfl (by kernel_rfl) str_law hkey hput .plain ?_; refine RunK.nil <| LWP.region (by kernel_rfl) <| kmv rfl <| kad rfl rfl (wrap_i64 (by omega)) <| kas rfl <| RunK.nil ?_)
      exact ⟨_, _, by omega, Le.of (by exact ⟨rfl, rfl, rfl, rfl, trivial⟩) (by exact ⟨rfl, rfl, trivial⟩) (by exact rfl) (by exact rfl) (by repeat' (first | refine all_cons_true ?_ ?_ | rfl | exact bytes_inUse | exact vals_inUse | exact mid_inUse rfl)), j + 1, m3, by omega, rfl, hm3, rfl⟩
    · have e : j = L.length := by omega
      subst e
      (refine LWP.seq <| LWP.seq <| LWP.region (by kernel_rfl) <| kmv rfl <| kmv rfl <| K.lenSlc rfl SliceT.h rfl .plain ?_; refine klt rfl rfl (decide_eq_false (by omega)) <| RunK.nil <| LWP.condF rfl ?_; refine LWP.exit <| LWP.seq <| LWP.region (by kernel_rfl) <| kmv rfl <| K.lenSlc rfl SliceT.h rfl .plain ?_; refine kmv rfl <| keq rfl rfl (r := true) (by simp) <| kas rfl <| RunK.nil <| LWP.ret ?_)
      exact ⟨[_], ⟨rfl, trivial⟩, rfl⟩
  replace hlt := Decidable.not_not.1 hlt
  by_cases hlt2 : ¬ i < 120
  · (refine LWP.seq <| LWP.seq <| LWP.region (by kernel_rfl) <| kmv rfl <| kmv rfl <| K.lenX rfl SliceT.h rfl .plain ?_; refine klt rfl rfl (decide_eq_true (by omega)) <| kmv rfl <| gmv rfl rfl rfl <| K.lss rfl rfl (decide_eq_false (by omega)) (.taken rfl rfl) ?_; refine kpt rfl rfl <| RunK.nil <| LWP.condF rfl ?_; refine LWP.exit <| LWP.seq ?_)
    have r1 := cRows_spec X 2 q L
    (refine LWP.region (by kernel_rfl) <| kmv rfl <| K.callMp [(1000000, 500), (1000001, 503)] (.sv (.one (.slc 503 0 L.length))) [cB 500 2 q L, rwB 503 L] (r1) rfl rfl (by exact (And.intro ⟨_, rfl, rfl⟩ trivial)) (by exact (all_cons_true rfl rfl)) rfl rfl rfl rfl (by exact (.box rfl rfl (.box rfl (Box.ren_vals _ _ _ _) .nil))) .plain <| kas rfl <| RunK.nil <| LWP.seq <| LWP.seq <| LWP.region (by kernel_rfl) <| kas rfl <| RunK.nil <| LWP.block ?_)
    refine LWP.loop (fun m σ => ∃ (j : Nat) (mm : List (Value × Value)), j ≤ L.length ∧ m = L.length - j ∧ (∀ p x, j ≤ p → L[p]? = some x → (strV x, one1) ∈ mm) ∧ σ = ⟨[(6, .sv (.one (.mp 31))), (7, Ln .i64 (L.length : Nat)), (21, .sv (.one (.slc 503 0 L.length))), (22, Ln .i64 (j : Nat))], [rwB 503 L, mB 31 mm], X⟩) L.length
      ⟨_, Le.of (by exact ⟨rfl, rfl, rfl, rfl, trivial⟩) (by exact ⟨rfl, rfl, trivial⟩) (by exact rfl) (by exact rfl) (by repeat' (first | refine all_cons_true ?_ ?_ | rfl | exact bytes_inUse | exact vals_inUse | exact mid_inUse rfl)), 0, mm, by omega, by omega, (fun p x _ hx => hM x (List.mem_of_getElem? hx)), rfl⟩ ?_
    rintro m σ ⟨j, m2, hj, rfl, hm2, rfl⟩
    by_cases hjl : j < L.length
    · obtain ⟨x, hx⟩ : ∃ x, L[j]? = some x := ⟨_, List.getElem?_eq_getElem hjl⟩
      obtain ⟨m3, hput⟩ := put_ex m2 (strV x) (.int .i64 2)
      have hkey := key_ok (x := x) (by
        obtain ⟨j', _, e⟩ := hmk x (List.mem_of_getElem? hx)
        rw [e, mrk_len]; decide)
      have hi1 : 0 + Int.toNat (j : Int) * 1 = j := by simp
      have hm3 : ∀ p y, j + 1 ≤ p → L[p]? = some y → (strV y, one1) ∈ m3 := fun p y hp hy => put_keep hput (fun e => by
        have e2 := strV_inj e
        rw [e2] at hy
        have := nodup_ix hnd hy hx
        omega) (hm2 p y (by omega) hy)
      (refine LWP.seq <| LWP.seq <| LWP.region (by kernel_rfl) <| kmv rfl <| kmv rfl <| K.lenSlc rfl SliceT.h rfl .plain ?_; refine klt rfl rfl (decide_eq_true (by omega)) <| RunK.nil <| LWP.condT rfl ?_; refine LWP.skip ?_; refine LWP.seq <| LWP.block <| LWP.seq <| LWP.seq <| LWP.region (by kernel_rfl) <| kmv rfl <| kmv rfl <| kmv rfl <| K.indexSlc rfl rfl (by omega) hi1 .plain ?_; refine kl1 rfl rfl (txC_at hx) <| K.lookup (et := 3) (v := one1) (z := .int .i64 0) rfl rfl rfl (by kernel_rfl) str_law hkey (by kernel_rfl) (.inl (hm2 j x (Nat.le_refl _) hx)) .plain ?_; refine kne rfl rfl ((bne_eq_false_iff_eq.2 (by omega))) <| RunK.nil <| LWP.condF rfl ?_; refine LWP.skip ?_; refine LWP.region (by kernel_rfl) <| kmv rfl <| kmv rfl <| kmv rfl <| K.indexSlc rfl rfl (by omega) hi1 .plain ?_; refine kl1 rfl rfl (txC_at hx) <| K.mapUpdate (et := 3) m3 rfl rfl rfl rfl (by kernel_rfl) str_law hkey hput .plain ?_; refine RunK.nil <| LWP.region (by kernel_rfl) <| kmv rfl <| kad rfl rfl (wrap_i64 (by omega)) <| kas rfl <| RunK.nil ?_)
      exact ⟨_, _, by omega, Le.of (by exact ⟨rfl, rfl, rfl, rfl, trivial⟩) (by exact ⟨rfl, rfl, trivial⟩) (by exact rfl) (by exact rfl) (by repeat' (first | refine all_cons_true ?_ ?_ | rfl | exact bytes_inUse | exact vals_inUse | exact mid_inUse rfl)), j + 1, m3, by omega, rfl, hm3, rfl⟩
    · have e : j = L.length := by omega
      subst e
      (refine LWP.seq <| LWP.seq <| LWP.region (by kernel_rfl) <| kmv rfl <| kmv rfl <| K.lenSlc rfl SliceT.h rfl .plain ?_; refine klt rfl rfl (decide_eq_false (by omega)) <| RunK.nil <| LWP.condF rfl ?_; refine LWP.exit <| LWP.seq <| LWP.region (by kernel_rfl) <| kmv rfl <| K.lenSlc rfl SliceT.h rfl .plain ?_; refine kmv rfl <| keq rfl rfl (r := true) (by simp) <| kas rfl <| RunK.nil <| LWP.ret ?_)
      exact ⟨[_], ⟨rfl, trivial⟩, rfl⟩
  replace hlt2 := Decidable.not_not.1 hlt2
  obtain ⟨u, hu⟩ : ∃ u, ts[i]? = some u := ⟨_, List.getElem?_eq_getElem hlt⟩
  obtain ⟨blk, off, arr, el, fr, rfl, hX, hc⟩ := hT i (.int .i64 u) (by rw [List.getElem?_map, hu]; rfl)
  have hio : off + Int.toNat (i : Int) * 1 = off + i := by simp
  obtain ⟨t, ht, ht1, ht2⟩ := u_mod u 500 (by omega) (by omega)
  (refine LWP.seq <| LWP.seq <| LWP.region (by kernel_rfl) <| kmv rfl <| kmv rfl <| K.lenX rfl SliceT.h rfl .plain ?_; refine klt rfl rfl (decide_eq_true (by omega)) <| kmv rfl <| gmv rfl rfl rfl <| K.lss rfl rfl (decide_eq_true (by omega)) (.taken rfl rfl) ?_; refine kpt rfl rfl <| RunK.nil <| LWP.condT rfl ?_; refine LWP.skip ?_; refine LWP.seq <| LWP.block <| LWP.seq <| LWP.region (by kernel_rfl) <| kmv rfl <| kmv rfl <| K.indexX rfl rfl SliceT.h (by omega) hio .plain <| K.loadX rfl hX rfl hc .plain <| kcv rfl rfl ?_; refine K.rem rfl rfl (by decide) ht1 .plain <| kcv rfl ht2 ?_; refine kas rfl <| RunK.nil <| LWP.seq <| LWP.seq ?_)
  generalize (some (⟨blk, off, none⟩ : Addr)) = ad at *
  have hl := cLen_spec X 2 q L
  have hcap := cCap_spec X 2 q L
  have ht3 : ((t : Nat) : Int).tmod 3 = ((t % 3 : Nat) : Int) := by rw [Int.tmod_eq_emod_of_nonneg (by omega)]; omega
  refine LWP.meet0 (fun σ => ∃ b : Bool, (b = true ↔ (t % 3 ≠ 0 ∨ L.length = 0)) ∧ σ = ⟨[(1, Tx ad ts.length cp), (5, Lp 500), (6, .sv (.one (.mp 31))), (7, Ln .i64 (L.length : Nat)), (8, Ln .i64 (i : Nat)), (9, Ln .i64 (t : Nat)), (56, Lb b)], [cB 500 2 q L, mB 31 mm], X⟩) ?_ ?_
  · by_cases h3 : t % 3 = 0
    · by_cases h0 : L.length = 0
      · (refine LWP.region (by kernel_rfl) <| kmv rfl <| K.rem rfl rfl (by decide) ht3 .plain <| kne rfl rfl (r := false) (by rw [bne_eq_false_iff_eq]; omega) <| kmv rfl <| gmv rfl rfl rfl <| K.callR [(1000000, 500)] (hl) rfl rfl (by exact (And.intro ⟨_, rfl, rfl⟩ trivial)) (by exact (all_cons_true rfl rfl)) rfl rfl rfl rfl (.taken rfl rfl) ?_; refine K.eql rfl rfl (r := true) (by rw [beq_iff_eq]; omega) (.taken rfl rfl) ?_; refine kpf rfl rfl <| RunK.nil ?_)
        exact ⟨_, Le.of (by exact ⟨rfl, rfl, rfl, rfl, rfl, rfl, rfl, trivial⟩) (by exact ⟨rfl, rfl, trivial⟩) (by exact rfl) (by exact rfl) (by repeat' (first | refine all_cons_true ?_ ?_ | rfl | exact bytes_inUse | exact vals_inUse | exact mid_inUse rfl)), true, ⟨fun _ => .inr h0, fun _ => rfl⟩, rfl⟩
      · (refine LWP.region (by kernel_rfl) <| kmv rfl <| K.rem rfl rfl (by decide) ht3 .plain <| kne rfl rfl (r := false) (by rw [bne_eq_false_iff_eq]; omega) <| kmv rfl <| gmv rfl rfl rfl <| K.callR [(1000000, 500)] (hl) rfl rfl (by exact (And.intro ⟨_, rfl, rfl⟩ trivial)) (by exact (all_cons_true rfl rfl)) rfl rfl rfl rfl (.taken rfl rfl) ?_; refine K.eql rfl rfl (r := false) (by rw [beq_eq_false_iff_ne]; omega) (.taken rfl rfl) ?_; refine kpf rfl rfl <| RunK.nil ?_)
        exact ⟨_, Le.of (by exact ⟨rfl, rfl, rfl, rfl, rfl, rfl, rfl, trivial⟩) (by exact ⟨rfl, rfl, trivial⟩) (by exact rfl) (by exact rfl) (by repeat' (first | refine all_cons_true ?_ ?_ | rfl | exact bytes_inUse | exact vals_inUse | exact mid_inUse rfl)), false, ⟨(fun h => by cases h), (fun h => by omega)⟩, rfl⟩
    · (refine LWP.region (by kernel_rfl) <| kmv rfl <| K.rem rfl rfl (by decide) ht3 .plain <| kne rfl rfl (r := true) (by rw [bne_iff_ne]; omega) <| kmv rfl <| RunK.passed rfl rfl rfl <| RunK.passed rfl rfl rfl <| RunK.passed rfl rfl rfl <| kpt rfl rfl <| RunK.nil ?_)
      exact ⟨_, Le.of (by exact ⟨rfl, rfl, rfl, rfl, rfl, rfl, rfl, trivial⟩) (by exact ⟨rfl, rfl, trivial⟩) (by exact rfl) (by exact rfl) (by repeat' (first | refine all_cons_true ?_ ?_ | rfl | exact bytes_inUse | exact vals_inUse | exact mid_inUse rfl)), true, ⟨fun _ => .inl h3, fun _ => rfl⟩, rfl⟩
  rintro σ ⟨b, hb, rfl⟩
  refine LWP.meet0 (fun σ => ∃ (M : List (List UInt8)) (ln : Nat) (m2 : List (Value × Value)), ln = M.length ∧ M.length ≤ q ∧ M.Nodup ∧ (∀ x ∈ M, ∃ j, j < i + 1 ∧ x = mrk j) ∧ (∀ x ∈ M, (strV x, one1) ∈ m2) ∧ σ = ⟨[(1, Tx ad ts.length cp), (5, Lp 500), (6, .sv (.one (.mp 31))), (7, Ln .i64 (ln : Nat)), (8, Ln .i64 (i : Nat))], [cB 500 2 q M, mB 31 m2], X⟩) ?_ ?_
  · cases b with
    | true =>
      have w0 : IntKind.u8.wrap (i : Nat) = ((UInt8.ofNat (i % 256)).toNat : Nat) := u8n i
      have hsh : ((i : Nat) : Int).fdiv (2 ^ (min (8 : Int).toNat IntKind.i64.bits)) = ((i / 256 : Nat) : Int) := by
        rw [show (2 : Int) ^ (min (8 : Int).toNat IntKind.i64.bits) = 256 by decide, Int.fdiv_eq_ediv_of_nonneg _ (by decide)]; omega
      have w1 : IntKind.u8.wrap ((i / 256 : Nat) : Int) = ((UInt8.ofNat (i / 256 % 256)).toNat : Nat) := u8n (i / 256)
      by_cases hf : L.length < q
      · have hap : appE 2 q L.length (mrk i) = 0 := by unfold appE; rw [if_neg (by rw [mrk_len]; omega), if_neg (by omega)]
        have hA := cAppend_ok X 2 q L (mrk i) hap
        have hcap := cCap_spec X 2 q (L ++ [mrk i])
        obtain ⟨m3, hput⟩ := put_ex mm (strV (mrk i)) one1
        have hkey := key_ok (x := mrk i) (by rw [mrk_len]; decide)
        have hadd : IntKind.i64.wrap ((L.length : Nat) + 1 : Int) = ((L.length + 1 : Nat) : Int) := by rw [wrap_i64 (by omega)]; omega
        have hnew : mrk i ∉ L := fun h => by
          obtain ⟨j, hj, e⟩ := hmk _ h
          have := mrk_inj (by omega) (by omega) e
          omega
        (refine LWP.condT rfl ?_; refine LWP.seq <| LWP.region (by kernel_rfl) <| kmv rfl <| kcv rfl w0 ?_; refine kmv rfl <| K.shr rfl rfl (by decide) hsh .plain <| kcv rfl w1 ?_; refine K.buildSlc (zs := [.int .u8 0, .int .u8 0]) (sz := 1) (e := 5) (cs' := (mrk i).map bc) (by kernel_rfl) rfl rfl rfl rfl rfl rfl .plain <| K.convStr (l := mrk i) rfl rfl (by kernel_rfl) StrT.u (Nat.le_refl _) rfl .plain <| kas rfl <| RunK.nil <| LWP.seq <| LWP.region (by kernel_rfl) <| kmv rfl <| kmv rfl <| K.callM [(1000000, 500)] [cB 500 2 q (L ++ [mrk i])] (hA) rfl rfl (by exact (And.intro ⟨_, rfl, rfl⟩ trivial)) (by exact (all_cons_true rfl rfl)) rfl rfl rfl rfl (by exact (.box rfl rfl .nil)) .plain <| kas rfl <| RunK.nil <| LWP.seq <| LWP.seq <| LWP.region (by kernel_rfl) ?_; refine kmv rfl <| keq rfl rfl (beq_iff_eq.2 (by omega)) <| kmv rfl <| kmv rfl <| K.callR [(1000000, 500)] (hcap) rfl rfl (by exact (And.intro ⟨_, rfl, rfl⟩ trivial)) (by exact (all_cons_true rfl rfl)) rfl rfl rfl rfl .plain <| klt rfl rfl (decide_eq_true (by omega)) <| K.neqB rfl rfl rfl .plain <| RunK.nil <| LWP.condF rfl ?_; refine LWP.skip ?_; refine LWP.seq <| LWP.region (by kernel_rfl) <| kmv rfl <| keq rfl rfl (beq_iff_eq.2 (by omega)) <| RunK.nil <| LWP.condT rfl ?_; refine LWP.seq <| LWP.region (by kernel_rfl) <| kmv rfl <| kmv rfl <| K.mapUpdate (et := 3) m3 rfl rfl rfl rfl (by kernel_rfl) str_law hkey hput .plain ?_; refine RunK.nil <| LWP.region (by kernel_rfl) <| kmv rfl <| kad rfl rfl hadd <| kas rfl <| RunK.nil ?_)
        exact ⟨_, Le.of (by exact ⟨rfl, rfl, rfl, rfl, rfl, trivial⟩) (by exact ⟨rfl, rfl, trivial⟩) (by exact rfl) (by exact rfl) (by repeat' (first | refine all_cons_true ?_ ?_ | rfl | exact bytes_inUse | exact vals_inUse | exact mid_inUse rfl)), L ++ [mrk i], L.length + 1, m3, by simp, by simp; omega, (by
            rw [List.nodup_append]
            exact ⟨hnd, by simp, fun a ha b hb e => by simp at hb; subst hb; exact hnew (e ▸ ha)⟩), (fun x hx => by
            rcases List.mem_append.1 hx with h | h
            · obtain ⟨j, hj, e⟩ := hmk x h; exact ⟨j, by omega, e⟩
            · simp at h; exact ⟨i, by omega, h⟩), (fun x hx => by
            rcases List.mem_append.1 hx with h | h
            · exact put_keep hput (fun e => hnew (strV_inj e ▸ h)) (hM x h)
            · simp at h; subst h; exact put_at hput), rfl⟩
      · have hap : appE 2 q L.length (mrk i) = 5 := by unfold appE; rw [if_neg (by rw [mrk_len]; omega), if_pos (by omega)]
        have hA := cAppend_no X 2 q L (mrk i) hap (by decide) (by rw [mrk_len]; decide)
        (refine LWP.condT rfl ?_; refine LWP.seq <| LWP.region (by kernel_rfl) <| kmv rfl <| kcv rfl w0 ?_; refine kmv rfl <| K.shr rfl rfl (by decide) hsh .plain <| kcv rfl w1 ?_; refine K.buildSlc (zs := [.int .u8 0, .int .u8 0]) (sz := 1) (e := 5) (cs' := (mrk i).map bc) (by kernel_rfl) rfl rfl rfl rfl rfl rfl .plain <| K.convStr (l := mrk i) rfl rfl (by kernel_rfl) StrT.u (Nat.le_refl _) rfl .plain <| kas rfl <| RunK.nil <| LWP.seq <| LWP.region (by kernel_rfl) <| kmv rfl <| kmv rfl <| K.callR [(1000000, 500)] (hA) rfl rfl (by exact (And.intro ⟨_, rfl, rfl⟩ trivial)) (by exact (all_cons_true rfl rfl)) rfl rfl rfl rfl .plain <| kas rfl <| RunK.nil <| LWP.seq <| LWP.seq <| LWP.region (by kernel_rfl) ?_; refine kmv rfl <| keq rfl rfl (beq_eq_false_iff_ne.2 (by omega)) <| kmv rfl <| kmv rfl <| K.callR [(1000000, 500)] (hcap) rfl rfl (by exact (And.intro ⟨_, rfl, rfl⟩ trivial)) (by exact (all_cons_true rfl rfl)) rfl rfl rfl rfl .plain <| klt rfl rfl (decide_eq_false (by omega)) <| K.neqB rfl rfl rfl .plain <| RunK.nil <| LWP.condF rfl ?_; refine LWP.skip ?_; refine LWP.seq <| LWP.region (by kernel_rfl) <| kmv rfl <| keq rfl rfl (beq_eq_false_iff_ne.2 (by omega)) <| RunK.nil <| LWP.condF rfl ?_; refine LWP.skip ?_)
        exact ⟨_, Le.of (by exact ⟨rfl, rfl, rfl, rfl, rfl, trivial⟩) (by exact ⟨rfl, rfl, trivial⟩) (by exact rfl) (by exact rfl) (by repeat' (first | refine all_cons_true ?_ ?_ | rfl | exact bytes_inUse | exact vals_inUse | exact mid_inUse rfl)), L, L.length, mm, rfl, hLq, hnd, (fun x hx => by obtain ⟨j, hj, e⟩ := hmk x hx; exact ⟨j, by omega, e⟩), hM, rfl⟩
    | false =>
      have hb' : t % 3 = 0 ∧ L.length ≠ 0 := by
        have : ¬ (t % 3 ≠ 0 ∨ L.length = 0) := fun h => by have := hb.2 h; cases this
        omega
      obtain ⟨k, hk, hkt⟩ : ∃ k : Nat, k < L.length ∧ ((t : Nat) : Int).tmod (L.length : Nat) = (k : Nat) := ⟨t % L.length, Nat.mod_lt _ (by omega), by rw [Int.tmod_eq_emod_of_nonneg (by omega)]; exact (Int.natCast_emod t L.length).symm⟩
      obtain ⟨s, hs⟩ : ∃ s, L[k]? = some s := ⟨_, List.getElem?_eq_getElem hk⟩
      obtain ⟨l, hll⟩ : ∃ l, L[L.length - 1]? = some l := ⟨_, List.getElem?_eq_getElem (by omega)⟩
      have hg1 := cGet_ok X 2 q L k s hs
      have hg2 := cGet_ok X 2 q L (L.length - 1) l hll
      have hsw := cSwap_ok X 2 q L k hk rfl
      have hsub : IntKind.i64.wrap ((L.length : Nat) - 1 : Int) = ((L.length - 1 : Nat) : Int) := by rw [wrap_i64 (by omega)]; omega
      obtain ⟨m3, hput⟩ := put_ex mm (strV s) (.int .i64 0)
      have hkey := key_ok (x := s) (by
        obtain ⟨j', _, e⟩ := hmk s (List.mem_of_getElem? hs)
        rw [e, mrk_len]; decide)
      have hfin : (swapL L k).Nodup ∧ (∀ x ∈ swapL L k, ∃ j, j < i + 1 ∧ x = mrk j) ∧ (∀ x ∈ swapL L k, (strV x, one1) ∈ m3) := ⟨swap_nodup hnd hk, fun x hx => by
          obtain ⟨j, hj, e⟩ := hmk x (swap_mem hnd hk hs hx).1; exact ⟨j, by omega, e⟩, fun x hx => by
          have := swap_mem hnd hk hs hx
          exact put_keep hput (fun e => this.2 (strV_inj e)) (hM x this.1)⟩
      have hlen := swapL_len (L := L) (i := k) (by omega)
      by_cases hkl : k = L.length - 1
      · have hg3 := cGet_no X 2 q (swapL L k) (k : Nat) (.inr (by omega))
        (refine LWP.condF rfl ?_; refine LWP.seq <| LWP.region (by kernel_rfl) <| kmv rfl <| kmv rfl <| K.callR [(1000000, 500)] (hl) rfl rfl (by exact (And.intro ⟨_, rfl, rfl⟩ trivial)) (by exact (all_cons_true rfl rfl)) rfl rfl rfl rfl .plain <| K.rem rfl rfl (by omega) hkt .plain <| kas rfl <| RunK.nil <| LWP.seq <| LWP.region (by kernel_rfl) <| kmv rfl <| kmv rfl <| K.callR [(1000000, 500)] (hg1) rfl rfl (by exact (And.intro ⟨_, rfl, rfl⟩ trivial)) (by exact (all_cons_true rfl rfl)) rfl rfl rfl rfl .plain <| kmv rfl ?_; refine kex rfl rfl <| kex rfl rfl <| kas rfl <| kas rfl <| RunK.nil <| LWP.seq <| LWP.region (by kernel_rfl) <| kmv rfl <| kmv rfl <| K.callR [(1000000, 500)] (hl) rfl rfl (by exact (And.intro ⟨_, rfl, rfl⟩ trivial)) (by exact (all_cons_true rfl rfl)) rfl rfl rfl rfl .plain <| K.sub rfl rfl hsub .plain <| K.callR [(1000000, 500)] (hg2) rfl rfl (by exact (And.intro ⟨_, rfl, rfl⟩ trivial)) (by exact (all_cons_true rfl rfl)) rfl rfl rfl rfl .plain <| kmv rfl <| kex rfl rfl ?_; refine kex rfl rfl <| kas rfl <| kas rfl <| RunK.nil <| LWP.seq <| LWP.region (by kernel_rfl) <| kmv rfl <| kmv rfl <| K.callM [(1000000, 500)] [cB 500 2 q (swapL L k)] (hsw) rfl rfl (by exact (And.intro ⟨_, rfl, rfl⟩ trivial)) (by exact (all_cons_true rfl rfl)) rfl rfl rfl rfl (by exact (.box rfl rfl .nil)) .plain <| kmv rfl <| kex rfl rfl <| kex rfl rfl <| kas rfl <| kas rfl ?_; refine RunK.nil <| LWP.seq <| LWP.seq <| LWP.region (by kernel_rfl) <| kmv rfl <| kne rfl rfl ((bne_eq_false_iff_eq.2 (by omega))) <| kmv rfl <| gmv rfl rfl rfl <| gmv rfl rfl rfl <| K.sub rfl rfl hsub (.taken rfl rfl) ?_; refine K.neq rfl rfl (r := false) (by simp) (.taken rfl rfl) ?_; refine kpf rfl rfl <| kmv rfl <| gmv rfl rfl rfl <| gmv rfl rfl rfl <| K.lookup (et := 3) (v := one1) (z := .int .i64 0) rfl rfl rfl (by kernel_rfl) str_law hkey (by kernel_rfl) (.inl (hM s (List.mem_of_getElem? hs))) (.taken rfl rfl) ?_; refine K.neq rfl rfl ((bne_eq_false_iff_eq.2 (by omega))) (.taken rfl rfl) ?_; refine kpf rfl rfl <| RunK.nil <| LWP.condF rfl ?_; refine LWP.skip ?_; refine LWP.seq <| LWP.seq <| LWP.region (by kernel_rfl) <| kmv rfl <| kmv rfl <| K.callR [(1000000, 500)] (hg3) rfl rfl (by exact (And.intro ⟨_, rfl, rfl⟩ trivial)) (by exact (all_cons_true rfl rfl)) rfl rfl rfl rfl .plain <| kmv rfl <| kex rfl rfl <| kex rfl rfl <| kas rfl <| kas rfl <| RunK.nil <| LWP.seq <| LWP.region (by kernel_rfl) ?_; refine kmv rfl <| kmv rfl <| kne rfl rfl (r := false) (by rw [bne_eq_false_iff_eq]; omega) <| kmv rfl <| RunK.passed rfl rfl rfl <| RunK.passed rfl rfl rfl <| RunK.passed rfl rfl rfl <| kpf rfl rfl <| RunK.nil <| LWP.condF rfl ?_; refine LWP.skip ?_; refine LWP.seq <| LWP.region (by kernel_rfl) <| kmv rfl <| kmv rfl <| K.mapUpdate (et := 3) m3 rfl rfl rfl rfl (by kernel_rfl) str_law hkey hput .plain ?_; refine RunK.nil <| LWP.region (by kernel_rfl) <| kmv rfl <| K.sub rfl rfl hsub .plain <| kas rfl <| RunK.nil ?_)
        exact ⟨_, Le.of (by exact ⟨rfl, rfl, rfl, rfl, rfl, trivial⟩) (by exact ⟨rfl, rfl, trivial⟩) (by exact rfl) (by exact rfl) (by repeat' (first | refine all_cons_true ?_ ?_ | rfl | exact bytes_inUse | exact vals_inUse | exact mid_inUse rfl)), swapL L k, L.length - 1, m3, hlen.symm, by omega, hfin.1, hfin.2.1, hfin.2.2, rfl⟩
      · have hat : (swapL L k)[k]? = some l := by rw [swapL_at hll, List.getElem?_take, if_pos (by omega), List.getElem?_set_self hk]
        have hg3 := cGet_ok X 2 q (swapL L k) k l hat
        (refine LWP.condF rfl ?_; refine LWP.seq <| LWP.region (by kernel_rfl) <| kmv rfl <| kmv rfl <| K.callR [(1000000, 500)] (hl) rfl rfl (by exact (And.intro ⟨_, rfl, rfl⟩ trivial)) (by exact (all_cons_true rfl rfl)) rfl rfl rfl rfl .plain <| K.rem rfl rfl (by omega) hkt .plain <| kas rfl <| RunK.nil <| LWP.seq <| LWP.region (by kernel_rfl) <| kmv rfl <| kmv rfl <| K.callR [(1000000, 500)] (hg1) rfl rfl (by exact (And.intro ⟨_, rfl, rfl⟩ trivial)) (by exact (all_cons_true rfl rfl)) rfl rfl rfl rfl .plain <| kmv rfl ?_; refine kex rfl rfl <| kex rfl rfl <| kas rfl <| kas rfl <| RunK.nil <| LWP.seq <| LWP.region (by kernel_rfl) <| kmv rfl <| kmv rfl <| K.callR [(1000000, 500)] (hl) rfl rfl (by exact (And.intro ⟨_, rfl, rfl⟩ trivial)) (by exact (all_cons_true rfl rfl)) rfl rfl rfl rfl .plain <| K.sub rfl rfl hsub .plain <| K.callR [(1000000, 500)] (hg2) rfl rfl (by exact (And.intro ⟨_, rfl, rfl⟩ trivial)) (by exact (all_cons_true rfl rfl)) rfl rfl rfl rfl .plain <| kmv rfl <| kex rfl rfl ?_; refine kex rfl rfl <| kas rfl <| kas rfl <| RunK.nil <| LWP.seq <| LWP.region (by kernel_rfl) <| kmv rfl <| kmv rfl <| K.callM [(1000000, 500)] [cB 500 2 q (swapL L k)] (hsw) rfl rfl (by exact (And.intro ⟨_, rfl, rfl⟩ trivial)) (by exact (all_cons_true rfl rfl)) rfl rfl rfl rfl (by exact (.box rfl rfl .nil)) .plain <| kmv rfl <| kex rfl rfl <| kex rfl rfl <| kas rfl <| kas rfl ?_; refine RunK.nil <| LWP.seq <| LWP.seq <| LWP.region (by kernel_rfl) <| kmv rfl <| kne rfl rfl ((bne_eq_false_iff_eq.2 (by omega))) <| kmv rfl <| gmv rfl rfl rfl <| gmv rfl rfl rfl <| K.sub rfl rfl hsub (.taken rfl rfl) ?_; refine K.neq rfl rfl (r := false) (by simp) (.taken rfl rfl) ?_; refine kpf rfl rfl <| kmv rfl <| gmv rfl rfl rfl <| gmv rfl rfl rfl <| K.lookup (et := 3) (v := one1) (z := .int .i64 0) rfl rfl rfl (by kernel_rfl) str_law hkey (by kernel_rfl) (.inl (hM s (List.mem_of_getElem? hs))) (.taken rfl rfl) ?_; refine K.neq rfl rfl ((bne_eq_false_iff_eq.2 (by omega))) (.taken rfl rfl) ?_; refine kpf rfl rfl <| RunK.nil <| LWP.condF rfl ?_; refine LWP.skip ?_; refine LWP.seq <| LWP.seq <| LWP.region (by kernel_rfl) <| kmv rfl <| kmv rfl <| K.callR [(1000000, 500)] (hg3) rfl rfl (by exact (And.intro ⟨_, rfl, rfl⟩ trivial)) (by exact (all_cons_true rfl rfl)) rfl rfl rfl rfl .plain <| kmv rfl <| kex rfl rfl <| kex rfl rfl <| kas rfl <| kas rfl <| RunK.nil <| LWP.seq <| LWP.region (by kernel_rfl) ?_; refine kmv rfl <| kmv rfl <| kne rfl rfl (r := true) (by rw [bne_iff_ne]; omega) <| kmv rfl <| gmv rfl rfl rfl <| gmv rfl rfl rfl <| K.strNe rfl rfl (strs_ne (r := false) (by simp)) (.taken rfl rfl) ?_; refine kpt rfl rfl <| RunK.nil <| LWP.condF rfl ?_; refine LWP.skip ?_; refine LWP.seq <| LWP.region (by kernel_rfl) <| kmv rfl <| kmv rfl <| K.mapUpdate (et := 3) m3 rfl rfl rfl rfl (by kernel_rfl) str_law hkey hput .plain ?_; refine RunK.nil <| LWP.region (by kernel_rfl) <| kmv rfl <| K.sub rfl rfl hsub .plain <| kas rfl <| RunK.nil ?_)
        exact ⟨_, Le.of (by exact ⟨rfl, rfl, rfl, rfl, rfl, trivial⟩) (by exact ⟨rfl, rfl, trivial⟩) (by exact rfl) (by exact rfl) (by repeat' (first | refine all_cons_true ?_ ?_ | rfl | exact bytes_inUse | exact vals_inUse | exact mid_inUse rfl)), swapL L k, L.length - 1, m3, hlen.symm, by omega, hfin.1, hfin.2.1, hfin.2.2, rfl⟩
  rintro σ ⟨M, _, m2, rfl, hMq, hnd2, hmk2, hM2, rfl⟩
  have g1 := cLen_spec X 2 q M
  have g2 := cChunks_spec X 2 q M
  have hmul : IntKind.i64.wrap (((M.length + 15) / 16 : Nat) * 16 : Int) = (((M.length + 15) / 16 * 16 : Nat) : Int) := by rw [wrap_i64 (by omega)]; omega
  have hadd : IntKind.i64.wrap ((M.length : Nat) + 16 : Int) = ((M.length + 16 : Nat) : Int) := by rw [wrap_i64 (by omega)]; omega
  (refine LWP.seq <| LWP.region (by kernel_rfl) <| kmv rfl <| K.callR [(1000000, 500)] (g1) rfl rfl (by exact (And.intro ⟨_, rfl, rfl⟩ trivial)) (by exact (all_cons_true rfl rfl)) rfl rfl rfl rfl .plain <| kmv rfl <| kne rfl rfl (r := false) (by simp) <| kmv rfl <| gmv rfl rfl rfl <| K.callR [(1000000, 500)] (g2) rfl rfl (by exact (And.intro ⟨_, rfl, rfl⟩ trivial)) (by exact (all_cons_true rfl rfl)) rfl rfl rfl rfl (.taken rfl rfl) ?_; refine K.mul rfl rfl hmul (.taken rfl rfl) ?_; refine gmv rfl rfl rfl <| K.lss rfl rfl (decide_eq_false (by omega)) (.taken rfl rfl) ?_; refine kpf rfl rfl <| kmv rfl <| gmv rfl rfl rfl <| K.callR [(1000000, 500)] (g2) rfl rfl (by exact (And.intro ⟨_, rfl, rfl⟩ trivial)) (by exact (all_cons_true rfl rfl)) rfl rfl rfl rfl (.taken rfl rfl) ?_; refine K.mul rfl rfl hmul (.taken rfl rfl) ?_; refine gmv rfl rfl rfl <| K.add rfl rfl hadd (.taken rfl rfl) ?_; refine K.geq rfl rfl (decide_eq_false (by omega)) (.taken rfl rfl) ?_; refine kpf rfl rfl <| RunK.nil <| LWP.condF rfl ?_; refine LWP.skip ?_; refine LWP.region (by kernel_rfl) <| kmv rfl <| kad rfl rfl (wrap_i64 (by omega)) <| kas rfl <| RunK.nil ?_)
  exact ⟨_, _, by omega, Le.of (by exact ⟨rfl, rfl, rfl, rfl, rfl, trivial⟩) (by exact ⟨rfl, rfl, trivial⟩) (by exact rfl) (by exact rfl) (by repeat' (first | refine all_cons_true ?_ ?_ | rfl | exact bytes_inUse | exact vals_inUse | exact mid_inUse rfl)), i + 1, M, M.length, m2, rfl, by omega, by omega, hMq, rfl, hnd2, hmk2, hM2, rfl⟩
end Go.Proofs.Ytdlilapjijpghaa
end
