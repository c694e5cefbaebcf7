/- A piece of a proof over this program: contracts of its functions, and a logic to prove them by. -/
import Derived.Test.YtjifibloagkeeaaP2
import Derived.Test.YtjifibloagkeeaaP3
import Derived.Test.YtjifibloagkeeaaP4
import Derived.Test.YtjifibloagkeeaaP5
import Derived.DeepKeys3
section
namespace Go.Proofs.Ytjifibloagkeeaa
open Go Go.Lg Go.Lg.Fld Go.Lg.Sg Go.Lg.Col
set_option maxRecDepth 100000
abbrev Zp := Cp × Value
def rowsP (zs : List Zp) : List Value := rowsZ (zs.map (·.1)) (zs.map (·.2))
theorem rowsP_len (zs : List Zp) : (rowsP zs).length = zs.length * 3 := by
  unfold rowsP
  rw [rowsZ_len (by rw [List.length_map, List.length_map]), List.length_map]
theorem rowsP_app (a b : List Zp) : rowsP (a ++ b) = rowsP a ++ rowsP b := by
  unfold rowsP
  rw [List.map_append, List.map_append, rowsZ_app (by rw [List.length_map, List.length_map])]
theorem rowsP_cons (z : Zp) (l : List Zp) : rowsP (z :: l) = [.int .i64 z.1.id, .string ⟨z.1.nm.toArray⟩, z.2] ++ rowsP l := rfl
theorem rowsZ_zip {cs : List Cp} {cells : List Value} (h : cells.length = cs.length) : rowsZ cs cells = rowsP (cs.zip cells) := by
  unfold rowsP
  rw [List.map_fst_zip (by omega), List.map_snd_zip (by omega)]
abbrev kept (keep : Cp → Bool) (zs : List Zp) : List Zp := zs.filter fun z => keep z.1
variable (X : Nat → Option Obj)
theorem idxP_lent {S : Nat → Option (Option Box)} {el fel : TypeId} {row : Bool} {zs : List Zp} {k : Nat} (hk : S k = some (some ⟨el, (rowsP zs).map .val, row⟩)) (hG : ∀ z ∈ zs, SliceZ X z.2 fel 3 (flV z.1.fs)) (hb : InB (zs.map (·.1))) (hn : zs.length ≤ 65536) (f : FuncId) (caps : List Value) (p : Cp → Bool)
    (hp : ∀ Y : Nat → Option Obj, (∀ b o, X b = some o → Y b = some o) → ∀ (c : Cp) fad fcap, PSpec Try.prog Y f ([Cx c fad fcap] ++ caps.map fun v => .sv (.one (.val v))) (Lb (p c))) :
    ∀ (Y : Nat → Option Obj) (us : List Value), (∀ b o, X b = some o → Y b = some o) → LentLs S Y [.sv (.one (.slc k 0 zs.length 3)), Lf f caps] us → PSpec Try.prog Y 56 (us.map toLV) (Ln .i64 (findI p (zs.map (·.1)))) := by
  intro Y us hY hL
  obtain ⟨u1, us1, rfl, ⟨b, blk, cap2, m, hk', rfl, hc, hfit, hB⟩, u2, us2, rfl, h2, rfl⟩ := hL
  rw [hk] at hk'
  simp only [Option.some.injEq] at hk'
  subst hk'
  obtain ⟨arr, fr, us', sp, hYb, hsz, harr, hv⟩ := hB
  have := hv _ rfl
  subst this
  have h2 : u2 = .func (.func f) #[] caps.toArray := h2
  subst h2
  have hin : CompsIn Y (some ⟨blk, 0, none⟩) (zs.map (·.1)) := comps_block (fel := fel) hYb harr (by rw [List.length_map, List.length_map]) hb fun i c v hc hv => by
    rw [List.getElem?_map] at hc hv
    obtain ⟨z, hz, rfl⟩ := Option.map_eq_some_iff.1 hc
    rw [hz] at hv
    simp only [Option.map_some, Option.some.injEq] at hv
    subst hv
    have hs := hG z (List.mem_of_getElem? hz)
    refine hs.mono fun b hb' => ?_
    have hne := hs.some_of hb'
    cases hx : X b with
    | none => exact absurd hx hne
    | some o => exact hY b o hx
  have := idxC_spec Y (some ⟨blk, 0, none⟩) cap2 (zs.map (·.1)) hin (by rw [List.length_map]; omega) f caps p fun c _ => hp Y hY c
  rw [List.length_map] at this
  exact this
set_option maxHeartbeats 6400000 in
theorem delC (zs : List Zp) {fel : TypeId} (hG : ∀ z ∈ zs, SliceZ X z.2 fel 3 (flV z.1.fs)) (hb : InB (zs.map (·.1))) (hn : zs.length ≤ 65536) (rw_ : Bool) (f : FuncId) (caps : List Value) (keep : Cp → Bool)
    (hp : ∀ Y : Nat → Option Obj, (∀ b o, X b = some o → Y b = some o) → ∀ (c : Cp) fad fcap, PSpec Try.prog Y f ([Cx c fad fcap] ++ caps.map fun v => .sv (.one (.val v))) (Lb (!keep c))) :
    MSpec Try.prog X 47 [.sv (.one (.slc 1000000 0 zs.length 3)), Lf f caps] [(1000000, some ⟨54, (rowsP zs).map .val, rw_⟩)] (.sv (.one (.slc 1000000 0 (kept keep zs).length 3)))
      [(1000000, some ⟨54, (rowsP (kept keep zs) ++ zer (zs.length - (kept keep zs).length)).map .val, rw_⟩)] := by
  have hidx : ∀ {S : Nat → Option (Option Box)} {row : Bool}, S 1000000 = some (some ⟨54, (rowsP zs).map .val, row⟩) → _ := fun {S row} hk => idxP_lent X (S := S) (row := row) hk hG hb hn f caps (fun c => !keep c) hp
  refine MSpec.intro Try.func47 rfl (by kernel_rfl) rfl rfl (by exact (by repeat' (first | refine all_cons_true ?_ ?_ | rfl | exact bytes_inUse | exact vals_inUse | exact mid_inUse rfl))) rfl rfl ?_
  intro C
  cases hfi : (zs.map (·.1)).findIdx? (fun c => !keep c) with
  | none =>
    have hall : kept keep zs = zs := List.filter_eq_self.2 fun z hz => by
      have := List.findIdx?_eq_none_iff.1 hfi z.1 (List.mem_map.2 ⟨z, hz, rfl⟩)
      simpa using this
    rw [hall, Nat.sub_self, show zer 0 = [] from rfl, List.append_nil]
    have hI : findI (fun c => !keep c) (zs.map (·.1)) = -1 := by unfold findI; rw [hfi]
    rw [hI] at hidx
    (refine LWP.seq <| LWP.region (by kernel_rfl) <| kas rfl <| RunK.nil <| LWP.seq <| LWP.region (by kernel_rfl) <| kmv rfl <| kmv rfl <| K.callL [1000000] rfl rfl rfl (hidx rfl) .plain ?_; refine kas rfl <| RunK.nil <| LWP.seq <| LWP.seq <| LWP.region (by kernel_rfl) <| kmv rfl <| keq rfl rfl (r := true) rfl <| RunK.nil <| LWP.condT rfl ?_; refine LWP.seq <| LWP.region (by kernel_rfl) <| kmv rfl <| kas rfl <| RunK.nil <| LWP.ret ?_)
    exact ⟨[], ⟨[_], ⟨rfl, trivial⟩, rfl⟩, (by repeat' (first | exact trivial | refine And.intro ⟨_, rfl, ?_⟩ ?_ | refine And.intro ⟨_, rfl⟩ ?_ | rfl | exact Box.ren_bytes _ _ _ _ | exact Box.ren_vals _ _ _ _ | exact Box.ren_mid rfl)), rfl, rfl⟩
  | some i0 =>
    obtain ⟨hi0, h1, h2⟩ := List.findIdx?_eq_some_iff_getElem.1 hfi
    rw [List.length_map] at hi0
    have hI : findI (fun c => !keep c) (zs.map (·.1)) = (i0 : Nat) := by unfold findI; rw [hfi]
    rw [hI] at hidx
    have hadd : IntKind.i64.wrap (((i0 : Nat) : Int) + 1) = ((i0 + 1 : Nat) : Int) := by rw [wrap_i64 (by omega)]; omega
    obtain ⟨z0, hz0⟩ : ∃ z, zs[i0]? = some z := ⟨_, List.getElem?_eq_getElem hi0⟩
    have hk0 : keep z0.1 = false := by
      have e : z0 = zs[i0] := by rw [List.getElem?_eq_getElem hi0] at hz0; exact (Option.some.inj hz0).symm
      rw [List.getElem_map] at h1
      rw [e]; simpa using h1
    have hpre : kept keep (zs.take i0) = zs.take i0 := List.filter_eq_self.2 fun z hz => by
      obtain ⟨j, hj, e⟩ := List.mem_take_iff_getElem.1 hz
      have := h2 j (by omega)
      rw [List.getElem_map] at this
      rw [← e]; simpa using this
    have hF0 : kept keep (zs.take (i0 + 1)) = zs.take i0 := by
      rw [take_snoc hz0]
      show (zs.take i0 ++ [z0]).filter _ = _
      rw [List.filter_append, show (zs.take i0).filter (fun z => keep z.1) = zs.take i0 from hpre, List.filter_cons, if_neg (by rw [hk0]; decide)]
      simp
    have hlt0 : (zs.take i0).length = i0 := by rw [List.length_take]; omega
    (refine LWP.seq <| LWP.region (by kernel_rfl) <| kas rfl <| RunK.nil <| LWP.seq <| LWP.region (by kernel_rfl) <| kmv rfl <| kmv rfl <| K.callL [1000000] rfl rfl rfl (hidx rfl) .plain ?_; refine kas rfl <| RunK.nil <| LWP.seq <| LWP.seq <| LWP.region (by kernel_rfl) <| kmv rfl <| keq rfl rfl (r := false) (beq_eq_false_iff_ne.2 (by omega)) <| RunK.nil <| LWP.condF rfl ?_; refine LWP.skip ?_; refine LWP.seq <| LWP.seq <| LWP.region (by kernel_rfl) <| kmv rfl <| kad rfl rfl hadd <| kas rfl <| RunK.nil <| LWP.block ?_)
    refine LWP.loop (fun m σ => ∃ (j : Nat) (mid : List Value), j ≤ zs.length ∧ m = zs.length - j ∧ (kept keep (zs.take j)).length < j ∧ mid.length = (j - (kept keep (zs.take j)).length) * 3 ∧ σ = ⟨[(0, .sv (.one (.slc 1000000 0 zs.length 3))), (1, Lf f caps), (5, Ln .i64 ((kept keep (zs.take j)).length : Nat)), (6, Ln .i64 (j : Nat))], [(1000000, some ⟨54, (rowsP (kept keep (zs.take j)) ++ (mid ++ rowsP (zs.drop j))).map .val, rw_⟩)], X⟩) (zs.length - (i0 + 1))
      ⟨⟨[(0, .sv (.one (.slc 1000000 0 zs.length 3))), (1, Lf f caps), (5, Ln .i64 (i0 : Nat)), (6, Ln .i64 (i0 + 1 : Nat))], [(1000000, some ⟨54, (rowsP zs).map .val, rw_⟩)], X⟩, Le.of (by exact ⟨rfl, rfl, rfl, rfl, trivial⟩) (by exact ⟨rfl, trivial⟩) (by exact rfl) (by exact rfl) (by repeat' (first | refine all_cons_true ?_ ?_ | rfl | exact bytes_inUse | exact vals_inUse | exact mid_inUse rfl)), i0 + 1, [.int .i64 z0.1.id, .string ⟨z0.1.nm.toArray⟩, z0.2], by omega, by omega, by rw [hF0, hlt0]; omega, by rw [hF0, hlt0, Nat.add_sub_cancel_left]; rfl, by
        rw [hF0, hlt0, ← rowsP_cons, ← rowsP_app, ← mid_of hz0]⟩ ?_
    rintro m σ ⟨j, mid, hj, rfl, hij, hmid, rfl⟩
    by_cases hlt : j < zs.length
    · obtain ⟨z, hz⟩ : ∃ z, zs[j]? = some z := ⟨_, List.getElem?_eq_getElem hlt⟩
      obtain ⟨c, v⟩ := z
      obtain ⟨fad, fcap, hv, _⟩ := leaf_in (hG _ (List.mem_of_getElem? hz)) (hb c (List.mem_map.2 ⟨_, List.mem_of_getElem? hz, rfl⟩)).2
      have hv : v = .slice fad c.fs.length fcap := hv
      subst hv
      have hP := hp X (fun _ _ h => h) c fad fcap
      have hdrop : zs.drop j = (c, .slice fad c.fs.length fcap) :: zs.drop (j + 1) := (drop_at hz)
      have hsn := take_snoc hz
      have hadd2 : IntKind.i64.wrap (((j : Nat) : Int) + 1) = ((j + 1 : Nat) : Int) := by rw [wrap_i64 (by omega)]; omega
      have hix : 0 + Int.toNat ((j : Nat) : Int) * 3 = j * 3 := by rw [Int.toNat_natCast]; omega
      have hfl : (rowsP (kept keep (zs.take j)) ++ mid).length = j * 3 := by rw [List.length_append, rowsP_len, hmid]; omega
      have hlen : (rowsP (kept keep (zs.take j)) ++ (mid ++ rowsP (zs.drop j))).length = zs.length * 3 := by rw [← List.append_assoc, List.length_append, hfl, rowsP_len, List.length_drop]; omega
      have hbl : Nat.ble (j * 3 + 3) ((rowsP (kept keep (zs.take j)) ++ (mid ++ rowsP (zs.drop j))).map CV.val).length = true := by rw [Nat.ble_eq, List.length_map, hlen]; omega
      have hcs : (((rowsP (kept keep (zs.take j)) ++ (mid ++ rowsP (zs.drop j))).map CV.val).drop (j * 3)).take 3 = [.val (.int .i64 c.id), .val (.string ⟨c.nm.toArray⟩), .val (.slice fad c.fs.length fcap)] := by
        rw [← List.map_drop, ← List.append_assoc, ← hfl, List.drop_left, hdrop, rowsP_cons, ← List.map_take]; rfl
      cases hkp : keep c with
      | true =>
        rw [hkp] at hP
        have hF1 : kept keep (zs.take (j + 1)) = kept keep (zs.take j) ++ [(c, .slice fad c.fs.length fcap)] := by
          rw [hsn]
          show (zs.take j ++ [_]).filter _ = _
          rw [List.filter_append, List.filter_cons, if_pos hkp]; rfl
        obtain ⟨m0, m1, m2, mid', rfl⟩ : ∃ m0 m1 m2 mid', mid = m0 :: m1 :: m2 :: mid' := by
          match mid, hmid with
          | m0 :: m1 :: m2 :: mid', _ => exact ⟨m0, m1, m2, mid', rfl⟩
          | [], h => simp at h; omega
          | [_], h => simp at h; omega
          | [_, _], h => simp at h; omega
        have hixi : 0 + Int.toNat (((kept keep (zs.take j)).length : Nat) : Int) * 3 = (kept keep (zs.take j)).length * 3 := by rw [Int.toNat_natCast]; omega
        have hroom : (kept keep (zs.take j)).length * 3 + 3 ≤ ((rowsP (kept keep (zs.take j)) ++ (m0 :: m1 :: m2 :: mid' ++ rowsP (zs.drop j))).map CV.val).length := by rw [List.length_map, hlen]; omega
        have hspl : splice ((rowsP (kept keep (zs.take j)) ++ (m0 :: m1 :: m2 :: mid' ++ rowsP (zs.drop j))).map CV.val) ((kept keep (zs.take j)).length * 3) [.val (.int .i64 c.id), .val (.string ⟨c.nm.toArray⟩), .val (.slice fad c.fs.length fcap)] = (rowsP (kept keep (zs.take (j + 1))) ++ ((mid' ++ [Value.int .i64 c.id, Value.string ⟨c.nm.toArray⟩, Value.slice fad c.fs.length fcap]) ++ rowsP (zs.drop (j + 1)))).map CV.val := by
          rw [hF1, rowsP_app, hdrop, rowsP_cons, rowsP_cons, show rowsP [] = [] from rfl]
          have hml : ((rowsP (kept keep (zs.take j))).map CV.val).length = (kept keep (zs.take j)).length * 3 := by rw [List.length_map, rowsP_len]
          unfold splice
          simp only [List.map_append, List.map_cons, List.map_nil, List.append_assoc, List.cons_append, List.nil_append]
          generalize (rowsP (kept keep (zs.take j))).map CV.val = R at *
          rw [← hml, List.take_left, List.drop_length_add_append]
          simp
        have haddi : IntKind.i64.wrap ((((kept keep (zs.take j)).length : Nat) : Int) + 1) = (((kept keep (zs.take (j + 1))).length : Nat) : Int) := by rw [hF1, List.length_append, wrap_i64 (by omega)]; simp
        have hi1 : (kept keep (zs.take (j + 1))).length = (kept keep (zs.take j)).length + 1 := by rw [hF1, List.length_append]; rfl
        generalize (kept keep (zs.take j)).length = i at *
        generalize (rowsP (kept keep (zs.take j)) ++ (m0 :: m1 :: m2 :: mid' ++ rowsP (zs.drop j))) = cells at *
        (refine LWP.seq <| LWP.seq <| LWP.region (by kernel_rfl) <| kmv rfl <| kmv rfl <| K.lenSlc rfl SliceT.h rfl .plain ?_; refine klt rfl rfl (decide_eq_true (by omega)) <| RunK.nil <| LWP.condT rfl ?_; refine LWP.skip ?_; refine LWP.seq <| LWP.block <| LWP.seq <| LWP.region (by kernel_rfl) <| kmv rfl <| kmv rfl <| K.indexSlc rfl rfl (by omega) hix .plain ?_; refine K.loadPart rfl rfl hbl hcs .plain ?_; refine K.alloc rfl .plain ?_; refine K.storeAll rfl rfl rfl rfl rfl rfl .plain ?_; refine RunK.nil <| LWP.seq <| LWP.region (by kernel_rfl) <| kmv rfl <| K.loadAll rfl rfl rfl .plain ?_; refine K.callF rfl rfl rfl hP .plain ?_; refine K.not rfl rfl .plain <| RunK.nil <| LWP.condT rfl ?_; refine LWP.seq <| LWP.region (by kernel_rfl) <| kmv rfl <| kmv rfl <| K.loadAll rfl rfl rfl .plain ?_; refine K.indexSlc rfl rfl (by omega) hixi .plain ?_; refine K.store rfl rfl rfl rfl (by kernel_rfl) hroom hspl .plain <| RunK.nil <| LWP.region (by kernel_rfl) <| kmv rfl <| kad rfl rfl haddi <| kas rfl <| RunK.nil <| LWP.region (by kernel_rfl) <| kmv rfl <| kad rfl rfl hadd2 <| kas rfl <| RunK.nil ?_)
        refine ⟨_, ⟨[(0, .sv (.one (.slc 1000000 0 zs.length 3))), (1, Lf f caps), (5, Ln .i64 ((kept keep (zs.take (j + 1))).length : Nat)), (6, Ln .i64 (j + 1 : Nat))], [(1000000, some ⟨54, (rowsP (kept keep (zs.take (j + 1))) ++ ((mid' ++ [Value.int .i64 c.id, Value.string ⟨c.nm.toArray⟩, Value.slice fad c.fs.length fcap]) ++ rowsP (zs.drop (j + 1)))).map CV.val, rw_⟩)], X⟩, (by omega : zs.length - (j + 1) < zs.length - j), Le.of (by exact ⟨rfl, rfl, rfl, rfl, trivial⟩) (by exact ⟨rfl, trivial⟩) (by exact rfl) (by exact rfl) (by repeat' (first | refine all_cons_true ?_ ?_ | rfl | exact bytes_inUse | exact vals_inUse | exact mid_inUse rfl)), j + 1, mid' ++ [Value.int .i64 c.id, Value.string ⟨c.nm.toArray⟩, Value.slice fad c.fs.length fcap], by omega, rfl, by omega, ?_, rfl⟩
        simp only [List.length_cons] at hmid
        rw [List.length_append, hi1]
        simp only [List.length_cons, List.length_nil]
        omega
      | false =>
        rw [hkp] at hP
        have hF1 : kept keep (zs.take (j + 1)) = kept keep (zs.take j) := by
          rw [hsn]
          show (zs.take j ++ [_]).filter _ = _
          rw [List.filter_append, List.filter_cons, if_neg (by rw [hkp]; decide)]; simp
        have hcells : (rowsP (kept keep (zs.take j)) ++ (mid ++ rowsP (zs.drop j))) = rowsP (kept keep (zs.take (j + 1))) ++ ((mid ++ [Value.int .i64 c.id, Value.string ⟨c.nm.toArray⟩, Value.slice fad c.fs.length fcap]) ++ rowsP (zs.drop (j + 1))) := by
          rw [hF1, hdrop, rowsP_cons]; simp
        have hi1 : (kept keep (zs.take (j + 1))).length = (kept keep (zs.take j)).length := by rw [hF1]
        rw [← hi1]
        rw [hcells] at hbl hcs ⊢
        generalize hii : (kept keep (zs.take (j + 1))).length = i at *
        generalize hcc : (rowsP (kept keep (zs.take (j + 1))) ++ ((mid ++ [Value.int .i64 c.id, Value.string ⟨c.nm.toArray⟩, Value.slice fad c.fs.length fcap]) ++ rowsP (zs.drop (j + 1)))) = cells at *
        (refine LWP.seq <| LWP.seq <| LWP.region (by kernel_rfl) <| kmv rfl <| kmv rfl <| K.lenSlc rfl SliceT.h rfl .plain ?_; refine klt rfl rfl (decide_eq_true (by omega)) <| RunK.nil <| LWP.condT rfl ?_; refine LWP.skip ?_; refine LWP.seq <| LWP.block <| LWP.seq <| LWP.region (by kernel_rfl) <| kmv rfl <| kmv rfl <| K.indexSlc rfl rfl (by omega) hix .plain ?_; refine K.loadPart rfl rfl hbl hcs .plain ?_; refine K.alloc rfl .plain ?_; refine K.storeAll rfl rfl rfl rfl rfl rfl .plain ?_; refine RunK.nil <| LWP.seq <| LWP.region (by kernel_rfl) <| kmv rfl <| K.loadAll rfl rfl rfl .plain ?_; refine K.callF rfl rfl rfl hP .plain ?_; refine K.not rfl rfl .plain <| RunK.nil <| LWP.condF rfl ?_; refine LWP.skip ?_; refine LWP.region (by kernel_rfl) <| kmv rfl <| kad rfl rfl hadd2 <| kas rfl <| RunK.nil ?_)
        refine ⟨_, ⟨[(0, .sv (.one (.slc 1000000 0 zs.length 3))), (1, Lf f caps), (5, Ln .i64 (i : Nat)), (6, Ln .i64 (j + 1 : Nat))], [(1000000, some ⟨54, cells.map CV.val, rw_⟩)], X⟩, (by omega : zs.length - (j + 1) < zs.length - j), Le.of (by exact ⟨rfl, rfl, rfl, rfl, trivial⟩) (by exact ⟨rfl, trivial⟩) (by exact rfl) (by exact rfl) (by repeat' (first | refine all_cons_true ?_ ?_ | rfl | exact bytes_inUse | exact vals_inUse | exact mid_inUse rfl)), j + 1, mid ++ [Value.int .i64 c.id, Value.string ⟨c.nm.toArray⟩, Value.slice fad c.fs.length fcap], by omega, rfl, by omega, ?_, by rw [hii, hcc]⟩
        rw [List.length_append, hmid, hii]
        simp only [List.length_cons, List.length_nil]
        omega
    · have e : j = zs.length := by omega
      subst e
      have htk : zs.take zs.length = zs := List.take_length
      rw [htk] at hij hmid ⊢
      have hmk : MadeOf Try.prog 22 54 3 48 [Value.int .i64 0, Value.string ⟨#[]⟩, Value.slice none 0 0] := ⟨by kernel_rfl, by kernel_rfl, rfl⟩
      have hcl : (rowsP (kept keep zs) ++ (mid ++ rowsP (zs.drop zs.length))) = rowsP (kept keep zs) ++ mid := by rw [List.drop_length]; show _ ++ (mid ++ []) = _; rw [List.append_nil]
      rw [hcl]
      have hlen : (rowsP (kept keep zs) ++ mid).length = zs.length * 3 := by rw [List.length_append, rowsP_len, hmid]; omega
      have hoff : 0 + (kept keep zs).length * 3 = (kept keep zs).length * 3 := Nat.zero_add _
      have hroom : (kept keep zs).length * 3 + (zs.length - (kept keep zs).length) * 3 ≤ ((rowsP (kept keep zs) ++ mid).map CV.val).length := by rw [List.length_map, hlen]; omega
      have hclr : splice ((rowsP (kept keep zs) ++ mid).map CV.val) ((kept keep zs).length * 3) ((List.replicate (zs.length - (kept keep zs).length) [Value.int .i64 0, Value.string ⟨#[]⟩, Value.slice none 0 0]).flatten.map CV.val) = (rowsP (kept keep zs) ++ zer (zs.length - (kept keep zs).length)).map CV.val := by
        have hzl : ((zer (zs.length - (kept keep zs).length)).map CV.val).length = (zs.length - (kept keep zs).length) * 3 := by rw [List.length_map, zer_len]
        have hml : ((rowsP (kept keep zs)).map CV.val).length = (kept keep zs).length * 3 := by rw [List.length_map, rowsP_len]
        show splice _ _ ((zer (zs.length - (kept keep zs).length)).map CV.val) = _
        unfold splice
        rw [List.map_append, List.map_append, ← hml, List.take_left, List.drop_eq_nil_of_le (by rw [List.length_append, hml, hzl, List.length_map, hmid]; omega), List.append_nil]
      generalize (kept keep zs).length = i at *
      generalize rowsP (kept keep zs) ++ mid = cells at *
      (refine LWP.seq <| LWP.seq <| LWP.region (by kernel_rfl) <| kmv rfl <| kmv rfl <| K.lenSlc rfl SliceT.h rfl .plain ?_; refine klt rfl rfl (decide_eq_false (by omega)) <| RunK.nil <| LWP.condF rfl ?_; refine LWP.exit <| LWP.seq <| LWP.region (by kernel_rfl) <| kmv rfl <| kmv rfl <| K.cutLoSlc rfl rfl SliceT.h (by omega) hoff rfl .plain ?_; refine K.clearSlc rfl rfl hmk rfl hroom (by omega) hclr .plain ?_; refine RunK.nil <| LWP.seq <| LWP.region (by kernel_rfl) <| kmv rfl <| kmv rfl <| K.cutSlc rfl rfl SliceT.h (by omega) .plain <| kas rfl <| RunK.nil <| LWP.ret ?_)
      exact ⟨[], ⟨[_], ⟨rfl, trivial⟩, rfl⟩, (by repeat' (first | exact trivial | refine And.intro ⟨_, rfl, ?_⟩ ?_ | refine And.intro ⟨_, rfl⟩ ?_ | rfl | exact Box.ren_bytes _ _ _ _ | exact Box.ren_vals _ _ _ _ | exact Box.ren_mid rfl)), rfl, rfl⟩
end Go.Proofs.Ytjifibloagkeeaa
end
section
namespace Go.Proofs.Ytjifibloagkeeaa
open Go Go.Lg Go.Lg.Fld Go.Lg.Sg Go.Lg.Col
set_option maxRecDepth 100000
def cmR (cs : List Cp) : Rsc := ⟨fun ρ H => (∃ (arr : Array Value) (fr : Nat × Nat), H ρ.1 = some (.cells arr 54 fr) ∧ arr.size = ρ.2) ∧ CompsIn H (some ⟨ρ.1, 0, none⟩) cs⟩
abbrev cmB (k : Nat) (cs : List Cp) : Nat × Option Box := (k, some ⟨0, [], .res (cmR cs)⟩)
variable (X : Nat → Option Obj)
theorem only1_spec (set : Nat) (hset : set < 4294967296) (c : Cp) (fad : Option Addr) (fcap : Nat) {b : Nat} {arr : Array Value} {el : TypeId} {fr : Nat × Nat} (hX : X b = some (.cells arr el fr)) (h0 : arr[0]? = some (.int .u32 (set : Nat))) :
    PSpec Try.prog X 48 [Cx c fad fcap, Vp b] (Lb (!hasB set c.id)) := by
  have hh := gHas X set hset c.id
  refine PSpec.intro Try.func48 rfl (by kernel_rfl) rfl rfl ?_
  intro C
  generalize hasB set c.id = q at *
  cases q with
  | true =>
    (refine LWP.seq <| LWP.region (by kernel_rfl) <| K.box rfl rfl rfl .plain <| kas rfl <| RunK.nil <| LWP.seq <| LWP.region (by kernel_rfl) <| K.loadX rfl hX rfl h0 .plain <| kfa rfl rfl ?_; refine kl1 rfl rfl rfl <| kca rfl rfl hh <| K.not rfl rfl .plain <| kas rfl <| RunK.nil <| LWP.ret ?_)
    exact ⟨[_], ⟨rfl, trivial⟩, rfl⟩
  | false =>
    (refine LWP.seq <| LWP.region (by kernel_rfl) <| K.box rfl rfl rfl .plain <| kas rfl <| RunK.nil <| LWP.seq <| LWP.region (by kernel_rfl) <| K.loadX rfl hX rfl h0 .plain <| kfa rfl rfl ?_; refine kl1 rfl rfl rfl <| kca rfl rfl hh <| K.not rfl rfl .plain <| kas rfl <| RunK.nil <| LWP.ret ?_)
    exact ⟨[_], ⟨rfl, trivial⟩, rfl⟩
set_option maxHeartbeats 6400000 in
theorem only0 (ver : Int) (ad : Option Addr) (cap : Nat) (cs : List Cp) (set : Nat) (hset : set < 4294967296) (hin : CompsIn X ad cs) (hn : cs.length ≤ 65536) (hfb : ∀ c ∈ cs, c.fs.length ≤ 4398046511104) :
    MSpec Try.prog X 34 [Sx ver ad cs.length cap, Ln .u32 (set : Nat)] [] (.sv (.agg [.val (.int .i64 ver), .slc 1000001 0 (onlyC cs set).length 3])) [cmB 1000001 (onlyC cs set)] := by
  refine MSpec.intro Try.func34 rfl (by kernel_rfl) rfl rfl (by exact (by repeat' (first | refine all_cons_true ?_ ?_ | rfl | exact bytes_inUse | exact vals_inUse | exact mid_inUse rfl))) rfl rfl ?_
  intro C
  refine LWP.ends ?_
  (refine LWP.seq <| LWP.region (by kernel_rfl) <| K.box rfl rfl rfl .plain <| K.box1 rfl rfl rfl .plain <| K.alloc rfl .plain ?_; refine RunK.nil <| LWP.seq ?_)
  refine LWP.le (σ' := ⟨[(3, Lp 3), (2, Lp 2), (4, Lp 4)], [(3, some ⟨35, [Value.int .u32 (set : Nat)].map .val, false⟩), sxB 2 ver ad cs.length cap, (4, some ⟨24, [.val (.int .i64 0), .val (.slice none 0 0)], false⟩)], X⟩) (Le.of (by exact ⟨rfl, rfl, rfl, trivial⟩) (by exact ⟨rfl, rfl, rfl, trivial⟩) (by exact rfl) (by exact rfl) (by repeat' (first | refine all_cons_true ?_ ?_ | rfl | exact bytes_inUse | exact vals_inUse | exact mid_inUse rfl))) ?_
  refine LWP.freezePtr (by rfl) (by rfl) (by rfl) fun b arr0 fr0 hnb hF0 h0 => ?_
  have hb0 : (withBlock X b (.cells arr0 35 fr0)) b = some (.cells arr0 35 fr0) := withBlock_at X b _
  have hin' := hin.mono (withBlock_old (o := .cells arr0 35 fr0) hnb)
  have hdr : ∀ x o, X x = some o → withBlock X b (.cells arr0 35 fr0) x = some o := withBlock_old hnb
  generalize withBlock X b (.cells arr0 35 fr0) = Y at *
  have hCl := pCloneBig Y ver ad cap cs hin' hn hfb
  (refine LWP.region (by kernel_rfl) <| K.loadAll rfl rfl rfl .plain ?_; refine K.callMp [(1000001, 602)] (.sv (.agg [.val (.int .i64 ver), .slc 602 0 cs.length 3])) [scB 602 cs] (hCl) rfl rfl (by exact trivial) rfl rfl rfl rfl rfl (by exact (.box rfl rfl .nil)) .plain <| K.storeAll rfl rfl rfl rfl rfl rfl .plain ?_; refine RunK.nil <| LWP.seq ?_)
  refine LWP.le (σ' := ⟨[(3, Vp b), (2, Lp 2), (4, Lp 4)], [scB 602 cs, (2, some ⟨24, [.val (.int .i64 ver), .slc 602 0 cs.length 3], false⟩), (4, some ⟨24, [.val (.int .i64 0), .val (.slice none 0 0)], false⟩)], Y⟩) (Le.of (by exact ⟨rfl, rfl, rfl, trivial⟩) (by exact ⟨rfl, rfl, rfl, trivial⟩) (by exact rfl) (by exact rfl) (by repeat' (first | refine all_cons_true ?_ ?_ | rfl | exact bytes_inUse | exact vals_inUse | exact mid_inUse rfl))) ?_
  refine LWP.openRes (scR_root cs) fun ρ H vals el fr hR hv hO => ?_
  obtain ⟨arr, fr', cells, sp, h1, h2, h3, G, hInb⟩ := hR
  rw [hv] at h1
  simp only [Option.some.injEq, Obj.cells.injEq] at h1
  obtain ⟨rfl, rfl, rfl⟩ := h1
  have hcl : cells.length = cs.length := by rw [G.len, List.length_map]
  rw [h3, rowsZ_zip hcl]
  have hzf : (cs.zip cells).map (·.1) = cs := List.map_fst_zip (by omega)
  have hzl : (cs.zip cells).length = cs.length := by rw [List.length_zip]; omega
  have hGz : ∀ z ∈ cs.zip cells, SliceZ (cutM H ρ.1) z.2 94 3 (flV z.1.fs) := fun z hz => by
    obtain ⟨i, hi⟩ := List.mem_iff_getElem?.1 hz
    obtain ⟨g1, g2⟩ := List.getElem?_zip_eq_some.1 hi
    exact G.at_ i z.2 _ (by simp) g2 (by rw [List.getElem?_map, g1]; rfl)
  have hGy : ∀ z ∈ cs.zip cells, SliceZ (joinM Y (cutM H ρ.1)) z.2 94 3 (flV z.1.fs) := fun z hz => by
    have hs := hGz z hz
    refine hs.mono fun b hb => ?_
    have hne := hs.some_of hb
    cases hc : cutM H ρ.1 b with
    | none => exact absurd hc hne
    | some o => exact joinM_in hc
  have hOc := hO.cut ρ.1
  generalize hzs : cs.zip cells = zs at *
  have hdel := delC (joinM Y (cutM H ρ.1)) zs hGy (by rw [hzf]; exact hInb) (by omega) true 48 [.pointer (some ⟨b, 0, none⟩)] (fun c => hasB set c.id) fun Z hZ c fad fcap => only1_spec Z set hset c fad fcap (hZ _ _ (joinM_has hOc hb0)) (at_zero h0)
  have hkf : (kept (fun c => hasB set c.id) zs).map (·.1) = onlyC cs set := by
    unfold onlyC kept
    rw [← hzf, List.filter_map]; rfl
  have hkl : (kept (fun c => hasB set c.id) zs).length = (onlyC cs set).length := by rw [← hkf, List.length_map]
  refine LWP.le (σ' := ⟨[(3, Vp b), (2, Lp 2), (4, Lp 4)], [(602, some ⟨54, (rowsP zs).map CV.val ++ sp.map CV.val, false⟩), (2, some ⟨24, [.val (.int .i64 ver), .slc 602 0 cs.length 3], false⟩), (4, some ⟨24, [.val (.int .i64 0), .val (.slice none 0 0)], false⟩)], joinM Y (cutM H ρ.1)⟩) (by rw [List.map_append]; exact ⟨fun ι _ _ hr => ⟨ι, hr⟩⟩) ?_
  refine LWP.le Le.trim ?_
  rw [← hzl]
  generalize hks : kept (fun c => hasB set c.id) zs = ks at *
  (refine LWP.region (by kernel_rfl) <| kfa rfl rfl ?_; refine kl1 rfl rfl rfl <| K.makeFunc rfl rfl .plain ?_; refine K.callMp [(1000000, 602)] (.sv (.one (.slc 602 0 ks.length 3))) [(602, some ⟨54, (rowsP ks ++ zer (zs.length - ks.length)).map .val, true⟩)] (hdel) rfl rfl (by exact (And.intro ⟨_, rfl, (Box.ren_vals _ _ _ _)⟩ trivial)) (by exact (all_cons_true vals_inUse rfl)) rfl rfl rfl rfl (by exact (.box rfl (Box.ren_vals _ _ _ _) .nil)) .plain <| kfa rfl rfl ?_; refine K.storeOne rfl rfl rfl rfl rfl (nl2 rfl rfl rfl) .plain <| RunK.nil <| LWP.seq <| LWP.region (by kernel_rfl) <| K.loadAll rfl rfl rfl .plain ?_; refine K.storeAll rfl rfl rfl rfl rfl rfl .plain ?_; refine RunK.nil <| LWP.ret ?_)
  refine Leads.le (σ' := ⟨[(4, Lp 4)], [(602, some ⟨54, (rowsP ks ++ zer (zs.length - ks.length)).map .val, true⟩), (4, some ⟨24, [.val (.int .i64 ver), .slc 602 0 ks.length 3], false⟩)], joinM Y (cutM H ρ.1)⟩) (Le.of (by exact ⟨rfl, trivial⟩) (by exact ⟨rfl, rfl, trivial⟩) (by exact rfl) (by exact rfl) (by repeat' (first | refine all_cons_true ?_ ?_ | rfl | exact bytes_inUse | exact vals_inUse | exact mid_inUse rfl))) ?_
  refine Leads.spare fun sp2 => ?_
  refine Leads.closeRes (R := cmR (onlyC cs set)) hOc (fun ρ2 fr2 g1 g2 g3 => ?_) ?_
  · refine ⟨⟨_, fr2, withBlock_at _ _ _, by rw [g3]; simp⟩, ?_⟩
    rw [← hkf]
    refine comps_block (fel := 94) (withBlock_at _ _ _) (cells := ks.map (·.2)) (sp := zer (zs.length - ks.length) ++ sp2) (by unfold rowsP; simp) (by rw [List.length_map, List.length_map]) ?_ fun i c v hc hv => ?_
    · rw [hkf]
      exact fun c hc => hInb c (only_mem hc).1
    · rw [List.getElem?_map] at hc hv
      obtain ⟨z, hz, rfl⟩ := Option.map_eq_some_iff.1 hc
      rw [hz] at hv
      simp only [Option.map_some, Option.some.injEq] at hv
      subst hv
      have hzm : z ∈ zs := by
        have := List.mem_of_getElem? hz
        rw [← hks] at this
        exact (List.mem_filter.1 this).1
      have hs := hGz z hzm
      refine hs.mono fun b' hb' => ?_
      have hne := hs.some_of hb'
      unfold withBlock
      rw [if_neg (fun e => hne (by rw [e]; exact g1))]
  rw [← hkl]
  refine Leads.le (Le.drop hdr) (Leads.done ?_)
  exact ⟨[(1000001, 602)], ⟨[_], ⟨⟨_, _, rfl, rfl, rfl, .inl ⟨AggT.h, rfl⟩⟩, trivial⟩, rfl⟩, (by repeat' (first | exact trivial | refine And.intro ⟨_, rfl, ?_⟩ ?_ | refine And.intro ⟨_, rfl⟩ ?_ | rfl | exact Box.ren_bytes _ _ _ _ | exact Box.ren_vals _ _ _ _ | exact Box.ren_mid rfl)), rfl, rfl⟩
theorem ofIds {s : Sc} (h : chkE s = 0) : okIds (s.cs.map Cp.id) = true := List.all_eq_true.2 fun x hx => by
  obtain ⟨c, hc, rfl⟩ := List.mem_map.1 hx
  obtain ⟨i, hi⟩ := List.mem_iff_getElem?.1 hc
  obtain ⟨g1, g2, _⟩ := (goodC16 h).one i c hi
  exact okI_iff.2 ⟨g1, g2⟩
theorem within_has {s : Sc} (h : chkE s = 0) (set : Nat) : withinB set (ofA (s.cs.map Cp.id)) = (idsL set).all (hasC s.cs) := by
  unfold withinB
  have ho := ofIds h
  rw [show ofA (s.cs.map Cp.id) = ofN (s.cs.map Cp.id) from if_pos ho]
  rw [Bool.eq_iff_iff, List.all_eq_true, List.all_eq_true]
  refine forall_congr' fun x => forall_congr' fun hx => ?_
  have h1 : hasB (ofN (s.cs.map Cp.id)) x = true ↔ x ∈ s.cs.map Cp.id := by
    rw [← mem_ofN ho, ← any_ids, List.any_eq_true]
    exact ⟨fun ⟨y, hy, e⟩ => by rw [← beq_iff_eq.1 e]; exact hy, fun hy => ⟨x, hy, beq_iff_eq.2 rfl⟩⟩
  rw [h1]
  unfold hasC
  rw [List.any_eq_true, List.mem_map]
  exact ⟨fun ⟨c, hc, e⟩ => ⟨c, hc, beq_iff_eq.2 e⟩, fun ⟨c, hc, e⟩ => ⟨c, hc, beq_iff_eq.1 e⟩⟩
theorem ofA_lt (ids : List Int) : ofA ids < 4294967296 := by
  unfold ofA
  split
  · rename_i h
    have := ofN_lt (ids := ids) (List.all_eq_true.1 h)
    omega
  · omega
set_option maxHeartbeats 3200000 in
theorem isOf0 (s : Sc) (ad : Option Addr) (cap : Nat) (set : Nat) (hset : set < 4294967296) (hin : CompsIn X ad s.cs) (hn : s.cs.length ≤ 65536) (hc : chkE s = 0) (r : Bool) (hr : (isB set && (idsL set).all (hasC s.cs)) = r) :
    PSpec Try.prog X 33 [Ln .u32 (set : Nat), Sx s.ver ad s.cs.length cap] (Lb r) := by
  have hI := pIds X s.ver ad cap s.cs hin hn
  have hOf : ∀ {S : Nat → Option (Option Box)} {k : Nat} {el : TypeId} {row : Bool}, S k = some (some ⟨el, (nuV (s.cs.map Cp.id)).map .val, row⟩) → ∀ (Y : Nat → Option Obj) (us : List Value), (∀ b o, X b = some o → Y b = some o) → LentLs S Y [.sv (.one (.slc k 0 (s.cs.map Cp.id).length))] us → PSpec Try.prog Y 43 (us.map toLV) (.tup [Sn .u32 (ofA (s.cs.map Cp.id) : Nat), Sn .i64 (ofE (s.cs.map Cp.id))]) := fun hk => of_lent X (by rw [List.length_map]; omega) hk
  rw [show ofE (s.cs.map Cp.id) = 0 from if_pos (ofIds hc)] at hOf
  have hids : idsV s.cs = nuV (s.cs.map Cp.id) := by unfold idsV nuV; rw [List.map_map]; rfl
  have hil : (s.cs.map Cp.id).length = s.cs.length := List.length_map _
  rw [hids] at hI
  rw [hil] at hOf
  have hIs := gIs X set hset
  have hW := gWithin X set (ofA (s.cs.map Cp.id)) hset (ofA_lt _)
  rw [within_has hc] at hW
  subst hr
  generalize ofA (s.cs.map Cp.id) = oa at *
  generalize nuV (s.cs.map Cp.id) = nv at *
  refine PSpec.intro Try.func33 rfl (by kernel_rfl) rfl rfl ?_
  intro C
  generalize isB set = q at *
  cases q with
  | false =>
    (refine LWP.seq <| LWP.region (by kernel_rfl) <| K.box rfl rfl rfl .plain <| kas rfl <| RunK.nil <| LWP.seq <| LWP.region (by kernel_rfl) <| K.loadAll rfl rfl rfl .plain ?_; refine K.callMp [(1000001, 601)] (.sv (.one (.slc 601 0 s.cs.length))) [(601, some ⟨3, nv.map .val, false⟩)] (hI) rfl rfl (by exact trivial) rfl rfl rfl rfl rfl (by exact (.box rfl (Box.ren_vals _ _ _ _) .nil)) .plain <| K.callL [601] rfl rfl rfl (hOf rfl) .plain ?_; refine kmv rfl <| kex rfl rfl <| kex rfl rfl <| kas rfl <| kas rfl <| RunK.nil <| LWP.seq <| LWP.region (by kernel_rfl) <| kmv rfl <| keq rfl rfl (r := true) rfl <| kmv rfl <| gmv rfl rfl rfl <| gca rfl rfl hIs rfl rfl <| kpt rfl rfl ?_; refine kmv rfl <| RunK.passed rfl rfl rfl <| RunK.passed rfl rfl rfl <| RunK.passed rfl rfl rfl <| kpf rfl rfl <| kas rfl <| RunK.nil <| LWP.ret ?_)
    exact ⟨[_], ⟨rfl, trivial⟩, rfl⟩
  | true =>
    generalize (idsL set).all (hasC s.cs) = w at *
    (refine LWP.seq <| LWP.region (by kernel_rfl) <| K.box rfl rfl rfl .plain <| kas rfl <| RunK.nil <| LWP.seq <| LWP.region (by kernel_rfl) <| K.loadAll rfl rfl rfl .plain ?_; refine K.callMp [(1000001, 601)] (.sv (.one (.slc 601 0 s.cs.length))) [(601, some ⟨3, nv.map .val, false⟩)] (hI) rfl rfl (by exact trivial) rfl rfl rfl rfl rfl (by exact (.box rfl (Box.ren_vals _ _ _ _) .nil)) .plain <| K.callL [601] rfl rfl rfl (hOf rfl) .plain ?_; refine kmv rfl <| kex rfl rfl <| kex rfl rfl <| kas rfl <| kas rfl <| RunK.nil <| LWP.seq <| LWP.region (by kernel_rfl) <| kmv rfl <| keq rfl rfl (r := true) rfl <| kmv rfl <| gmv rfl rfl rfl <| gca rfl rfl hIs rfl rfl <| kpt rfl rfl ?_; refine kmv rfl <| gmv rfl rfl rfl <| gmv rfl rfl rfl <| gca rfl rfl hW rfl rfl <| kpt rfl rfl <| kas rfl <| RunK.nil <| LWP.ret ?_)
    exact ⟨[_], ⟨rfl, trivial⟩, rfl⟩
end Go.Proofs.Ytjifibloagkeeaa
end
section
namespace Go.Proofs.Ytjifibloagkeeaa
open Go Go.Lg Go.Lg.Fld Go.Lg.Sg Go.Lg.Col
set_option maxRecDepth 100000
theorem names16 {cs : List Cp} (hs : cs.length ≤ 30 ∧ ∀ c ∈ cs, c.fs.length ≤ 12) (hm : NamesIn cs) : NamesC cs := fun c hc => ⟨by have := hs.2 c hc; omega, (hm c hc).1, (hm c hc).2⟩
theorem good_split {s : Sc} {set : Nat} {most : Int} : goodT s set most = (decide (chkE s = 0) && ((isB set && (idsL set).all (hasC s.cs)) && (decide (1 ≤ most) && decide (most ≤ 256)))) := by
  unfold goodT
  cases decide (chkE s = 0) <;> cases isB set <;> cases decide (1 ≤ most) <;> cases decide (most ≤ 256) <;> cases (idsL set).all (hasC s.cs) <;> rfl
variable (X : Nat → Option Obj)
set_option maxHeartbeats 3200000 in
theorem tNew_no (s : Sc) (set : Nat) (most : Int) (ad : Option Addr) (cap : Nat) (hin : CompsIn X ad s.cs) (hm : NamesIn s.cs) (hs : s.cs.length ≤ 30 ∧ ∀ c ∈ s.cs, c.fs.length ≤ 12) (hset : set < 4294967296) (h : goodT s set most = false) : PSpec Try.prog X 23 [Sx s.ver ad s.cs.length cap, Ln .u32 (set : Nat), Ln .i64 most] LnilT := by
  have hC := pCheckBig X s ad cap hin (by omega) (names16 hs hm) _ rfl
  have hI := fun hc => isOf0 X s ad cap set hset hin (by omega) hc _ rfl
  rw [good_split] at h
  refine PSpec.intro Try.func23 rfl (by kernel_rfl) rfl rfl ?_
  intro C
  by_cases hc : chkE s = 0
  case neg =>
    generalize chkE s = e at *
    (refine LWP.seq <| LWP.region (by kernel_rfl) <| K.box rfl rfl rfl .plain <| kas rfl <| RunK.nil <| LWP.seq <| LWP.seq <| LWP.region (by kernel_rfl) <| K.loadAll rfl rfl rfl .plain ?_; refine kca rfl rfl hC <| kne rfl rfl (r := true) (bne_iff_ne.2 hc) <| kmv rfl <| RunK.passed rfl rfl rfl <| RunK.passed rfl rfl rfl <| RunK.passed rfl rfl rfl <| RunK.passed rfl rfl rfl <| kpt rfl rfl <| kmv rfl <| RunK.passed rfl rfl rfl <| RunK.passed rfl rfl rfl <| kpt rfl rfl <| kmv rfl <| RunK.passed rfl rfl rfl ?_; refine RunK.passed rfl rfl rfl <| kpt rfl rfl <| RunK.nil <| LWP.condT rfl ?_; refine LWP.seq <| LWP.region (by kernel_rfl) <| kas rfl <| RunK.nil <| LWP.ret ?_)
    exact ⟨[_], ⟨rfl, trivial⟩, rfl⟩
  have hI := hI hc
  rw [decide_eq_true hc, Bool.true_and] at h
  rw [hc] at hC
  generalize (isB set && (idsL set).all (hasC s.cs)) = q at *
  cases q with
  | false =>
    (refine LWP.seq <| LWP.region (by kernel_rfl) <| K.box rfl rfl rfl .plain <| kas rfl <| RunK.nil <| LWP.seq <| LWP.seq <| LWP.region (by kernel_rfl) <| K.loadAll rfl rfl rfl .plain ?_; refine kca rfl rfl hC <| kne rfl rfl (r := false) rfl <| kmv rfl <| gmv rfl rfl rfl <| K.loadAll rfl rfl rfl (.taken rfl rfl) ?_; refine gca rfl rfl hI rfl rfl <| K.not rfl rfl (.taken rfl rfl) ?_; refine kpf rfl rfl <| kmv rfl <| RunK.passed rfl rfl rfl <| RunK.passed rfl rfl rfl <| kpt rfl rfl <| kmv rfl <| RunK.passed rfl rfl rfl <| RunK.passed rfl rfl rfl <| kpt rfl rfl <| RunK.nil <| LWP.condT rfl ?_; refine LWP.seq <| LWP.region (by kernel_rfl) <| kas rfl <| RunK.nil <| LWP.ret ?_)
    exact ⟨[_], ⟨rfl, trivial⟩, rfl⟩
  | true =>
    by_cases h1 : most < 1
    · (refine LWP.seq <| LWP.region (by kernel_rfl) <| K.box rfl rfl rfl .plain <| kas rfl <| RunK.nil <| LWP.seq <| LWP.seq <| LWP.region (by kernel_rfl) <| K.loadAll rfl rfl rfl .plain ?_; refine kca rfl rfl hC <| kne rfl rfl (r := false) rfl <| kmv rfl <| gmv rfl rfl rfl <| K.loadAll rfl rfl rfl (.taken rfl rfl) ?_; refine gca rfl rfl hI rfl rfl <| K.not rfl rfl (.taken rfl rfl) ?_; refine kpf rfl rfl <| kmv rfl <| gmv rfl rfl rfl <| K.lss rfl rfl (decide_eq_true h1) (.taken rfl rfl) ?_; refine kpf rfl rfl <| kmv rfl <| RunK.passed rfl rfl rfl <| RunK.passed rfl rfl rfl <| kpt rfl rfl <| RunK.nil <| LWP.condT rfl ?_; refine LWP.seq <| LWP.region (by kernel_rfl) <| kas rfl <| RunK.nil <| LWP.ret ?_)
      exact ⟨[_], ⟨rfl, trivial⟩, rfl⟩
    · have h2 : 256 < most := by
        rw [Bool.true_and, Bool.and_eq_false_iff, decide_eq_false_iff_not, decide_eq_false_iff_not] at h
        omega
      (refine LWP.seq <| LWP.region (by kernel_rfl) <| K.box rfl rfl rfl .plain <| kas rfl <| RunK.nil <| LWP.seq <| LWP.seq <| LWP.region (by kernel_rfl) <| K.loadAll rfl rfl rfl .plain ?_; refine kca rfl rfl hC <| kne rfl rfl (r := false) rfl <| kmv rfl <| gmv rfl rfl rfl <| K.loadAll rfl rfl rfl (.taken rfl rfl) ?_; refine gca rfl rfl hI rfl rfl <| K.not rfl rfl (.taken rfl rfl) ?_; refine kpf rfl rfl <| kmv rfl <| gmv rfl rfl rfl <| K.lss rfl rfl (decide_eq_false h1) (.taken rfl rfl) ?_; refine kpf rfl rfl <| kmv rfl <| gmv rfl rfl rfl <| K.gtr rfl rfl (decide_eq_true h2) (.taken rfl rfl) ?_; refine kpf rfl rfl <| RunK.nil <| LWP.condT rfl ?_; refine LWP.seq <| LWP.region (by kernel_rfl) <| kas rfl <| RunK.nil <| LWP.ret ?_)
      exact ⟨[_], ⟨rfl, trivial⟩, rfl⟩
def ArrAt (H : Nat → Option Obj) (v : Value) (qs : List Nat) : Prop := (v = nilSlc ∧ qs = []) ∨ ∃ db, LeadsTo H db v 85 1 (pvs qs)
theorem ArrAt.slice {H : Nat → Option Obj} {v : Value} {qs : List Nat} (h : ArrAt H v qs) : ∃ ad cap, v = .slice ad qs.length cap := by
  rcases h with ⟨rfl, rfl⟩ | ⟨db, len, cap, arr, fr, rfl, h2, _⟩
  · exact ⟨none, 0, rfl⟩
  · have : len = qs.length := by rw [pvs_len] at h2; omega
    rw [this]; exact ⟨_, cap, rfl⟩
theorem ArrAt.ptrs {H : Nat → Option Obj} {v : Value} {qs : List Nat} (h : ArrAt H v qs) : PtrsIn H v qs := by
  rcases h with ⟨rfl, rfl⟩ | ⟨db, h⟩
  · exact ⟨none, 0, rfl, fun i b hb => by simp at hb⟩
  · exact ptrs_leads h
set_option maxHeartbeats 12800000 in
theorem tNew (s : Sc) (set most : Nat) (ad : Option Addr) (cap : Nat) (hin : CompsIn X ad s.cs) (hm : NamesIn s.cs) (hs : s.cs.length ≤ 30 ∧ ∀ c ∈ s.cs, c.fs.length ≤ 12) (hset : set < 4294967296) (h : goodT s set most = true) : MSpec Try.prog X 23 [Sx s.ver ad s.cs.length cap, Ln .u32 (set : Nat), Ln .i64 (most : Nat)] [] (Lp 1000001) [tB 1000001 ⟨s, set, most, 0, []⟩] := by
  have hk : TbOk ⟨s, set, most, 0, []⟩ := TbOk.new hset h
  have h24 := t_len24 hk
  have hC := pCheckBig X s ad cap hin (by omega) (names16 hs hm) _ rfl
  rw [good_split] at h
  obtain ⟨hc, h⟩ := Bool.and_eq_true_iff.1 h
  obtain ⟨hq, h⟩ := Bool.and_eq_true_iff.1 h
  obtain ⟨hm1, hm2⟩ := Bool.and_eq_true_iff.1 h
  replace hc := of_decide_eq_true hc
  replace hm1 := of_decide_eq_true hm1
  replace hm2 := of_decide_eq_true hm2
  have hI := isOf0 X s ad cap set hset hin (by omega) hc _ hq
  rw [hc] at hC
  have hOnly := only0 X s.ver ad cap s.cs set hset hin (by omega) fun c hc => by have := hs.2 c hc; omega
  refine MSpec.intro Try.func23 rfl (by kernel_rfl) rfl rfl (by exact (by repeat' (first | refine all_cons_true ?_ ?_ | rfl | exact bytes_inUse | exact vals_inUse | exact mid_inUse rfl))) rfl rfl ?_
  intro C
  refine LWP.ends ?_
  have htc : onlyC (⟨s, set, most, 0, []⟩ : Tb).sc.cs (⟨s, set, most, 0, []⟩ : Tb).set = onlyC s.cs set := rfl
  generalize hnc : (onlyC s.cs set).length = nc at *
  (refine LWP.seq <| LWP.region (by kernel_rfl) <| K.box rfl rfl rfl .plain <| kas rfl <| RunK.nil <| LWP.seq <| LWP.seq <| LWP.region (by kernel_rfl) <| K.loadAll rfl rfl rfl .plain ?_; refine kca rfl rfl hC <| kne rfl rfl (r := false) rfl <| kmv rfl <| gmv rfl rfl rfl <| K.loadAll rfl rfl rfl (.taken rfl rfl) ?_; refine gca rfl rfl hI rfl rfl <| K.not rfl rfl (.taken rfl rfl) ?_; refine kpf rfl rfl <| kmv rfl <| gmv rfl rfl rfl <| K.lss rfl rfl (decide_eq_false (by omega)) (.taken rfl rfl) ?_; refine kpf rfl rfl <| kmv rfl <| gmv rfl rfl rfl <| K.gtr rfl rfl (decide_eq_false (by omega)) (.taken rfl rfl) ?_; refine kpf rfl rfl <| RunK.nil <| LWP.condF rfl ?_; refine LWP.skip ?_; refine LWP.seq <| LWP.region (by kernel_rfl) <| kmv rfl <| kmv rfl <| K.loadAll rfl rfl rfl .plain ?_; refine kmv rfl <| K.callMp [(1000001, 602)] (.sv (.agg [.val (.int .i64 s.ver), .slc 602 0 nc 3])) [cmB 602 (onlyC s.cs set)] (hOnly) rfl rfl (by exact trivial) rfl rfl rfl rfl rfl (by exact (.box rfl rfl .nil)) .plain <| K.build rfl rfl (by exact rfl) (by exact nl7 rfl rfl rfl rfl rfl rfl rfl rfl) .plain ?_; refine K.box rfl rfl rfl .plain <| kas rfl <| RunK.nil <| LWP.seq <| LWP.seq ?_)
  refine LWP.le (σ' := ⟨[(7, Lp 35), (2, Ln .i64 (most : Nat))], [(35, some ⟨65, [.val (.int .u32 (set : Nat)), .val (.int .i64 (most : Nat)), .val (.int .i64 (0 : Nat)), .val nilSlc, .val (.int .i64 s.ver)] ++ .slc 602 0 nc 3 :: [.val nilSlc], false⟩), cmB 602 (onlyC s.cs set)], X⟩) (Le.of (by exact ⟨rfl, rfl, trivial⟩) (by exact ⟨rfl, rfl, trivial⟩) (by exact rfl) (by exact rfl) (by repeat' (first | refine all_cons_true ?_ ?_ | rfl | exact bytes_inUse | exact vals_inUse | exact mid_inUse rfl))) ?_
  refine LWP.fixCell rfl rfl rfl rfl rfl rfl fun ρ H2 cc hcm hO2 hcc _ => ?_
  obtain ⟨cb, cm⟩ := ρ
  have hin2 : CompsIn H2 (some ⟨cb, 0, none⟩) (onlyC s.cs set) := hcm.2
  (refine LWP.region (by kernel_rfl) <| kmv rfl <| K.nilCheck rfl .plain <| kfa rfl rfl ?_; refine kfa rfl rfl ?_; refine kl1 rfl rfl rfl <| K.lenX rfl SliceT.h rfl .plain ?_; refine kmv rfl <| RunK.nil <| LWP.block ?_)
  refine LWP.loopL (fun m σ => ∃ (j : Nat) (qs : List Nat) (vP : Value) (Hn HA : Nat → Option Obj), j ≤ nc ∧ m = nc - j ∧ OwnedM C (joinM X H2) Hn ∧ OwnedM C (joinM (joinM X H2) Hn) HA ∧ Refs Hn qs ((colsT ⟨s, set, most, 0, []⟩).take j) ∧ ArrAt HA vP qs ∧ σ = ⟨[(7, Lp 35), (2, Ln .i64 (most : Nat)), (40, .sv (.one (vS (some ⟨cb, 0, none⟩) nc cc))), (41, Ln .i64 (nc : Nat)), (42, Ln .i64 (j : Nat))], [tS 35 ⟨s, set, most, 0, []⟩ (.val nilSlc) (.slice (some ⟨cb, 0, none⟩) nc cc) vP], joinM (joinM (joinM X H2) Hn) HA⟩) nc
    (Leads.le (σ' := ⟨[(7, Lp 35), (2, Ln .i64 (most : Nat)), (40, .sv (.one (vS (some ⟨cb, 0, none⟩) nc cc))), (41, Ln .i64 (nc : Nat)), (42, Ln .i64 (0 : Nat))], [tS 35 ⟨s, set, most, 0, []⟩ (.val nilSlc) (.slice (some ⟨cb, 0, none⟩) nc cc) nilSlc], joinM X H2⟩) (Le.of (by exact ⟨rfl, rfl, rfl, rfl, rfl, trivial⟩) (by exact ⟨rfl, trivial⟩) (by exact rfl) (by exact rfl) (by repeat' (first | refine all_cons_true ?_ ?_ | rfl | exact bytes_inUse | exact vals_inUse | exact mid_inUse rfl))) (Leads.done ⟨0, [], nilSlc, fun _ => none, fun _ => none, by omega, by omega, OwnedM.nil _ _, OwnedM.nil _ _, Refs.nil _, .inl ⟨rfl, rfl⟩, by rw [joinM_nil, joinM_nil]⟩)) ?_
  rintro m σ ⟨j, qs, vP, Hn, HA, hj, rfl, hOn, hOA, hR, hA, rfl⟩
  have hcl : (colsT ⟨s, set, most, 0, []⟩).length = nc := by rw [← hnc]; exact colsG_len _ _ _
  have hqs : qs.length = j := by rw [hR.len, List.length_take]; omega
  by_cases hlt : j < nc
  case neg =>
    have e : j = nc := by omega
    subst e
    rw [List.take_of_length_le (by omega)] at hR
    (refine LWP.seq <| LWP.region (by kernel_rfl) <| klt rfl rfl (decide_eq_false (by omega)) <| RunK.nil <| LWP.seq <| LWP.condF rfl ?_; refine LWP.exit <| LWP.seq <| LWP.region (by kernel_rfl) <| kmv rfl <| kas rfl <| RunK.nil <| LWP.ret ?_)
    obtain ⟨p1, p2, p3⟩ := OwnedM.swap hOn hOA
    refine Leads.le (σ' := ⟨[(6, Lp 35)], [tS 35 ⟨s, set, most, 0, []⟩ (.val nilSlc) (.slice (some ⟨cb, 0, none⟩) j cc) vP], tH X (joinM H2 HA) (fun _ => none) Hn⟩) (by
      unfold tH
      rw [joinM_nil, ← joinM_join, ← p3]
      exact Le.of (by exact ⟨rfl, trivial⟩) (by exact ⟨rfl, trivial⟩) (by exact rfl) (by exact rfl) (by repeat' (first | refine all_cons_true ?_ ?_ | rfl | exact bytes_inUse | exact vals_inUse | exact mid_inUse rfl))) ?_
    refine tab_shut (t := ⟨s, set, most, 0, []⟩) (hO2.join p1) (OwnedM.nil _ _) (by rw [joinM_nil, ← joinM_join]; exact p2) ⟨⟨cb, cc, by rw [← hnc], hin2.mono (Go.Lg.joinM_keeps p1)⟩, hA.ptrs.mono fun b o h => joinM_in h, hR, .inl ⟨rfl, rfl⟩, fun r hr => by cases hr⟩ (Leads.done ?_)
    exact ⟨[(1000001, 35)], ⟨[_], ⟨rfl, trivial⟩, rfl⟩, (by repeat' (first | exact trivial | refine And.intro ⟨_, rfl, ?_⟩ ?_ | refine And.intro ⟨_, rfl⟩ ?_ | rfl | exact Box.ren_bytes _ _ _ _ | exact Box.ren_vals _ _ _ _ | exact Box.ren_mid rfl)), rfl, rfl⟩
  obtain ⟨c, hcj⟩ : ∃ c, (onlyC s.cs set)[j]? = some c := ⟨_, List.getElem?_eq_getElem (by omega)⟩
  have hsz := t_size hk (k := j) (c := c) hcj
  have hlay := t_lay hk (k := j) (c := c) hcj
  have hM : ∀ b o, H2 b = some o → joinM (joinM (joinM X H2) Hn) HA b = some o := fun b o hb => joinM_has hOA (joinM_has hOn (joinM_in hb))
  obtain ⟨cblk, coff, carr, cel, cfr, fad, fcap, hqq, hcX, hcsz, hccs, _, _, _, hF⟩ := (hin2.mono hM).get hcj
  simp only [Option.some.injEq, Addr.mk.injEq] at hqq
  obtain ⟨rfl, rfl, _⟩ := hqq
  have hio : 0 + Int.toNat (j : Int) * 3 = 0 + j * 3 := by simp
  have hOf := Of_ok (joinM (joinM (joinM X H2) Hn) HA) fad fcap c.fs hF (by omega) hlay
  have hNw := cNew_ok (joinM (joinM (joinM X H2) Hn) HA) (rowSize c.fs) most hsz.2.1 (by omega) (by omega)
  have hadd : IntKind.i64.wrap (((j : Nat) : Int) + 1) = ((j + 1 : Nat) : Int) := by rw [wrap_i64 (by omega)]; omega
  have hroot := colR_root (rowSize c.fs) most []
  have htk : (colsT ⟨s, set, most, 0, []⟩).take (j + 1) = (colsT ⟨s, set, most, 0, []⟩).take j ++ [colR (rowSize c.fs) most []] := take_snoc (colsG_at (f := colL []) (most := most) hcj)
  have hfin : ∀ (HA0 : Nat → Option Obj) (Mid : St → Prop), OwnedM C (joinM (joinM X H2) Hn) HA0 → (∀ (qs' : List Nat) (vP' : Value) (Hn' HA' : Nat → Option Obj), OwnedM C (joinM X H2) Hn' → OwnedM C (joinM (joinM X H2) Hn') HA' → Refs Hn' qs' ((colsT ⟨s, set, most, 0, []⟩).take (j + 1)) → ArrAt HA' vP' qs' →
        Leads Try.f23.ntmps C Mid ⟨[(7, Lp 35), (2, Ln .i64 (most : Nat)), (40, .sv (.one (vS (some ⟨cb, 0, none⟩) nc cc))), (41, Ln .i64 (nc : Nat)), (42, Ln .i64 (j + 1 : Nat))], [tS 35 ⟨s, set, most, 0, []⟩ (.val nilSlc) (.slice (some ⟨cb, 0, none⟩) nc cc) vP'], joinM (joinM (joinM X H2) Hn') HA'⟩) →
      Leads Try.f23.ntmps C Mid ⟨[(7, Lp 35), (2, Ln .i64 (most : Nat)), (40, .sv (.one (vS (some ⟨cb, 0, none⟩) nc cc))), (41, Ln .i64 (nc : Nat)), (42, Ln .i64 (j + 1 : Nat))], [(603, some ⟨85, (pvs qs).map .val ++ .ptr 601 0 :: ([] : List Value).map .val, true⟩), cB 601 (rowSize c.fs) most [], tO 35 ⟨s, set, most, 0, []⟩ (.val nilSlc) (.val (.slice (some ⟨cb, 0, none⟩) nc cc)) (.slc 603 0 (j + 1) 1)], joinM (joinM (joinM X H2) Hn) HA0⟩ := fun HA0 Mid hO0 hmid => by
    refine Leads.fixRsc (k := 601) (s := [(7, Lp 35), (2, Ln .i64 (most : Nat)), (40, .sv (.one (vS (some ⟨cb, 0, none⟩) nc cc))), (41, Ln .i64 (nc : Nat)), (42, Ln .i64 (j + 1 : Nat))]) (bx := [tO 35 ⟨s, set, most, 0, []⟩ (.val nilSlc) (.val (.slice (some ⟨cb, 0, none⟩) nc cc)) (.slc 603 0 (j + 1) 1)]) (s0 := []) (b0 := [(603, some ⟨85, (pvs qs).map .val ++ .ptr 601 0 :: ([] : List Value).map .val, true⟩)]) (by rfl) (by rfl) (by rfl) (by rfl) (by refine all_cons_true ?_ rfl; exact fixIn_mid _ _) fun ρ Hc2 k1 k2 => ?_
    obtain ⟨bn, mn⟩ := ρ
    obtain ⟨q1, q2, q3⟩ := OwnedM.swap hO0 k2
    have hpush := hR.push k1 (hroot _ _ k1) fun x hx => own_far q1 hx
    have hcells : ((pvs qs).map CV.val ++ .ptr 601 0 :: ([] : List Value).map CV.val).map (CV.fix 601 bn) = (pvs (qs ++ [bn])).map CV.val := by
      rw [fix_mid]
      unfold pvs
      simp
    rw [q3]
    refine Leads.le (σ' := ⟨[(7, Lp 35), (2, Ln .i64 (most : Nat)), (40, .sv (.one (vS (some ⟨cb, 0, none⟩) nc cc))), (41, Ln .i64 (nc : Nat)), (42, Ln .i64 (j + 1 : Nat))], [(35, some ⟨65, [.val (.int .u32 (set : Nat)), .val (.int .i64 (most : Nat)), .val (.int .i64 (0 : Nat)), .val nilSlc, .val (.int .i64 s.ver), .val (.slice (some ⟨cb, 0, none⟩) nc cc)] ++ .slc 603 0 (j + 1) 1 :: [], false⟩), (603, some ⟨85, (pvs (qs ++ [bn])).map .val, true⟩)], joinM (joinM (joinM (joinM X H2) Hn) Hc2) HA0⟩) (by
      show Le _ _ (⟨[] ++ _, [(603, some ⟨_, ((pvs qs).map CV.val ++ .ptr 601 0 :: ([] : List Value).map CV.val).map (CV.fix 601 bn), true⟩)] ++ _, _⟩ : St) _
      rw [hcells]
      exact Le.of (by exact ⟨rfl, rfl, rfl, rfl, rfl, trivial⟩) (by exact ⟨rfl, rfl, trivial⟩) (by exact rfl) (by exact rfl) (by repeat' (first | refine all_cons_true ?_ ?_ | rfl | exact bytes_inUse | exact vals_inUse | exact mid_inUse rfl))) ?_
    refine Leads.closeCell q2 (by rw [pvs_len, List.length_append]; simp only [List.length_singleton]; omega) rfl rfl rfl rfl rfl rfl fun ba oa va _ _ hOa hva => ?_
    rw [joinM_join (joinM X H2) Hn Hc2]
    rw [joinM_join (joinM X H2) Hn Hc2] at hOa
    exact hmid (qs ++ [bn]) va (joinM Hn Hc2) _ (hOn.join q1) hOa (by rw [htk]; exact hpush) (.inr ⟨ba, hva⟩)
  have hdone : ∀ (qs' : List Nat) (vP' : Value) (Hn' HA' : Nat → Option Obj), OwnedM C (joinM X H2) Hn' → OwnedM C (joinM (joinM X H2) Hn') HA' → Refs Hn' qs' ((colsT ⟨s, set, most, 0, []⟩).take (j + 1)) → ArrAt HA' vP' qs' → _ := fun qs' vP' Hn' HA' y1 y2 y3 y4 => Leads.done (n := Try.f23.ntmps) (C := C) (Mid := fun σ' => ∃ m', m' < nc - j ∧ ∃ (j : Nat) (qs : List Nat) (vP : Value) (Hn HA : Nat → Option Obj), j ≤ nc ∧ m' = nc - j ∧ OwnedM C (joinM X H2) Hn ∧ OwnedM C (joinM (joinM X H2) Hn) HA ∧ Refs Hn qs ((colsT ⟨s, set, most, 0, []⟩).take j) ∧ ArrAt HA vP qs ∧ σ' = ⟨[(7, Lp 35), (2, Ln .i64 (most : Nat)), (40, .sv (.one (vS (some ⟨cb, 0, none⟩) nc cc))), (41, Ln .i64 (nc : Nat)), (42, Ln .i64 (j : Nat))], [tS 35 ⟨s, set, most, 0, []⟩ (.val nilSlc) (.slice (some ⟨cb, 0, none⟩) nc cc) vP], joinM (joinM (joinM X H2) Hn) HA⟩) ⟨nc - (j + 1), by omega, j + 1, qs', vP', Hn', HA', by omega, rfl, y1, y2, y3, y4, rfl⟩
  (refine LWP.seq <| LWP.region (by kernel_rfl) <| klt rfl rfl (decide_eq_true (by omega)) <| RunK.nil <| LWP.seq <| LWP.condT rfl ?_; refine LWP.skip ?_; refine LWP.seq <| LWP.block <| LWP.seq <| LWP.region (by kernel_rfl) <| K.indexX rfl rfl SliceT.h (by omega) hio .plain <| K.loadXagg rfl hcX (by kernel_rfl) hcsz hccs .plain <| K.alloc rfl .plain ?_; refine K.storeAll rfl rfl rfl rfl rfl rfl .plain ?_; refine RunK.nil <| LWP.seq <| LWP.region (by kernel_rfl) <| kfa rfl rfl ?_; refine kl1 rfl rfl rfl <| K.callMp [(1000001, 503)] (.tup [planV (rowSize c.fs : Nat) (.slc 503 0 c.fs.length 1), Sn .i64 0]) [(503, some ⟨3, (ntV (startsAt 0 c.fs)).map .val, false⟩)] (hOf) rfl rfl (by exact trivial) rfl rfl rfl rfl rfl (by exact (.box rfl (Box.ren_vals _ _ _ _) .nil)) .plain <| kmv rfl <| kex rfl rfl <| kex rfl rfl <| K.alloc rfl .plain ?_; refine K.storeAll rfl rfl rfl rfl rfl rfl .plain ?_; refine kas rfl <| RunK.nil ?_)
  refine LWP.le (σ' := ⟨[(10, Lp 10), (7, Lp 35), (2, Ln .i64 (most : Nat)), (40, .sv (.one (vS (some ⟨cb, 0, none⟩) nc cc))), (41, Ln .i64 (nc : Nat)), (42, Ln .i64 (j : Nat))], [(10, some ⟨82, [.val (.int .i64 (rowSize c.fs : Nat)), .slc 503 0 c.fs.length 1], false⟩), (503, some ⟨3, (ntV (startsAt 0 c.fs)).map .val, false⟩), tS 35 ⟨s, set, most, 0, []⟩ (.val nilSlc) (.slice (some ⟨cb, 0, none⟩) nc cc) vP], joinM (joinM (joinM X H2) Hn) HA⟩) (Le.of (by exact ⟨rfl, rfl, rfl, rfl, rfl, rfl, trivial⟩) (by exact ⟨rfl, rfl, rfl, trivial⟩) (by exact rfl) (by exact rfl) (by repeat' (first | refine all_cons_true ?_ ?_ | rfl | exact bytes_inUse | exact vals_inUse | exact mid_inUse rfl))) ?_
  rcases hA with ⟨rfl, rfl⟩ | ⟨db, hd⟩
  · have hj0 : j = 0 := by rw [← hqs]; rfl
    unfold nilSlc
    (refine LWP.draws mixed (by kernel_rfl) <| kmv rfl <| kmv rfl <| K.nilCheck rfl .plain <| kfa rfl rfl ?_; refine kl1 rfl rfl rfl <| kfa rfl rfl ?_; refine kl1 rfl rfl rfl <| kmv rfl <| K.callMp [(1000001, 601)] (Lp 601) [cB 601 (rowSize c.fs) most []] (hNw) rfl rfl (by exact trivial) rfl rfl rfl rfl rfl (by exact (.box rfl rfl .nil)) .plain <| K.buildSlc (zs := [.pointer none]) (sz := 1) (e := 85) (cs' := [.ptr 601 0]) (by kernel_rfl) rfl rfl rfl rfl rfl rfl .plain <| K.appendNil (by_ := 8) (e := 85) (e2 := 85) (l2 := [.ptr 601 0]) rfl rfl rfl (Nat.le_refl _) rfl rfl (by decide) (by kernel_rfl) (by kernel_rfl) (by omega) (by omega) rfl .plain ?_; refine K.nilCheck rfl .plain <| kfa rfl rfl ?_; refine K.storeOne rfl rfl rfl rfl rfl (nl7 rfl rfl rfl rfl rfl rfl rfl rfl) .plain <| RunK.nil <| And.intro (by kernel_rfl) ?_; refine LWP.region (by kernel_rfl) <| kad rfl rfl hadd <| kmv rfl <| RunK.nil ?_)
    refine Leads.le (σ' := ⟨[(7, Lp 35), (2, Ln .i64 (most : Nat)), (40, .sv (.one (vS (some ⟨cb, 0, none⟩) nc cc))), (41, Ln .i64 (nc : Nat)), (42, Ln .i64 (j + 1 : Nat))], [(603, some ⟨85, (pvs []).map .val ++ .ptr 601 0 :: ([] : List Value).map .val, true⟩), cB 601 (rowSize c.fs) most [], tO 35 ⟨s, set, most, 0, []⟩ (.val nilSlc) (.val (.slice (some ⟨cb, 0, none⟩) nc cc)) (.slc 603 0 (j + 1) 1)], joinM (joinM (joinM X H2) Hn) HA⟩) (by rw [hj0]; exact Le.ofR [(603, 62)] (by exact ⟨rfl, rfl, rfl, rfl, rfl, trivial⟩) (by repeat' (first | exact trivial | refine And.intro ⟨_, rfl, ?_⟩ ?_ | refine And.intro ⟨_, rfl⟩ ?_ | rfl | exact Box.ren_bytes _ _ _ _ | exact Box.ren_vals _ _ _ _ | exact Box.ren_mid rfl)) (by exact rfl) (by exact rfl) (by repeat' (first | refine all_cons_true ?_ ?_ | rfl | exact bytes_inUse | exact vals_inUse | exact mid_inUse rfl)) (by exact rfl) (by exact rfl)) ?_
    exact hfin _ _ hOA hdone
  · have hel : (pvs qs).length = j * 1 := by rw [pvs_len]; omega
    have hcl1 : ((pvs qs).map CV.val).length = j * 1 := by rw [List.length_map]; exact hel
    refine LWP.le (σ' := ⟨[(10, Lp 10), (7, Lp 35), (2, Ln .i64 (most : Nat)), (40, .sv (.one (vS (some ⟨cb, 0, none⟩) nc cc))), (41, Ln .i64 (nc : Nat)), (42, Ln .i64 (j : Nat))], [tS 35 ⟨s, set, most, 0, []⟩ (.val nilSlc) (.slice (some ⟨cb, 0, none⟩) nc cc) vP, (10, some ⟨82, [.val (.int .i64 (rowSize c.fs : Nat)), .slc 503 0 c.fs.length 1], false⟩), (503, some ⟨3, (ntV (startsAt 0 c.fs)).map .val, false⟩)], joinM (joinM (joinM X H2) Hn) HA⟩) (Le.of (by exact ⟨rfl, rfl, rfl, rfl, rfl, rfl, trivial⟩) (by exact ⟨rfl, rfl, rfl, trivial⟩) (by exact rfl) (by exact rfl) (by repeat' (first | refine all_cons_true ?_ ?_ | rfl | exact bytes_inUse | exact vals_inUse | exact mid_inUse rfl))) ?_
    refine LWP.openCell (A := [.val (.int .u32 (set : Nat)), .val (.int .i64 (most : Nat)), .val (.int .i64 (0 : Nat)), .val nilSlc, .val (.int .i64 s.ver), .val (.slice (some ⟨cb, 0, none⟩) nc cc)]) (B := []) (k := 602) (sz := 1) (len := j) hOA hd hel (by omega) rfl (by repeat' (first | refine all_cons_true ?_ ?_ | rfl | exact vals_inUse)) rfl rfl rfl ?_
    have hNw2 := cNew_ok (joinM (joinM (joinM X H2) Hn) (cutM HA db)) (rowSize c.fs) most hsz.2.1 (by omega) (by omega)
    (refine LWP.draws mixed (by kernel_rfl) <| kmv rfl <| kmv rfl <| K.nilCheck rfl .plain <| kfa rfl rfl ?_; refine kl1 rfl rfl rfl <| kfa rfl rfl ?_; refine kl1 rfl rfl rfl <| kmv rfl <| K.callMp [(1000001, 601)] (Lp 601) [cB 601 (rowSize c.fs) most []] (hNw2) rfl rfl (by exact trivial) rfl rfl rfl rfl rfl (by exact (.box rfl rfl .nil)) .plain <| K.buildSlc (zs := [.pointer none]) (sz := 1) (e := 85) (cs' := [.ptr 601 0]) (by kernel_rfl) rfl rfl rfl rfl rfl rfl .plain <| K.appendSlc (by_ := 8) (e2 := 85) (l2 := [.ptr 601 0]) (nl := j + 1) (nc := (pvs qs).map .val ++ [.ptr 601 0]) rfl rfl hcl1 rfl rfl (Nat.le_refl _) rfl rfl (by kernel_rfl) (by kernel_rfl) (by omega) (by omega) rfl rfl rfl .plain <| K.nilCheck rfl .plain <| kfa rfl rfl ?_; refine K.storeOne rfl rfl rfl rfl rfl (nl7 rfl rfl rfl rfl rfl rfl rfl rfl) .plain <| RunK.nil <| And.intro (by kernel_rfl) ?_; refine LWP.region (by kernel_rfl) <| kad rfl rfl hadd <| kmv rfl <| RunK.nil ?_)
    refine Leads.le (σ' := ⟨[(7, Lp 35), (2, Ln .i64 (most : Nat)), (40, .sv (.one (vS (some ⟨cb, 0, none⟩) nc cc))), (41, Ln .i64 (nc : Nat)), (42, Ln .i64 (j + 1 : Nat))], [(603, some ⟨85, (pvs qs).map .val ++ .ptr 601 0 :: ([] : List Value).map .val, true⟩), cB 601 (rowSize c.fs) most [], tO 35 ⟨s, set, most, 0, []⟩ (.val nilSlc) (.val (.slice (some ⟨cb, 0, none⟩) nc cc)) (.slc 603 0 (j + 1) 1)], joinM (joinM (joinM X H2) Hn) (cutM HA db)⟩) (Le.ofR [(603, 62)] (by exact ⟨rfl, rfl, rfl, rfl, rfl, trivial⟩) (by repeat' (first | exact trivial | refine And.intro ⟨_, rfl, ?_⟩ ?_ | refine And.intro ⟨_, rfl⟩ ?_ | rfl | exact Box.ren_bytes _ _ _ _ | exact Box.ren_vals _ _ _ _ | exact Box.ren_mid rfl)) (by exact rfl) (by exact rfl) (by repeat' (first | refine all_cons_true ?_ ?_ | rfl | exact bytes_inUse | exact vals_inUse | exact mid_inUse rfl)) (by exact rfl) (by exact rfl)) ?_
    exact hfin _ _ (hOA.cut db) hdone
end Go.Proofs.Ytjifibloagkeeaa
end
section
namespace Go.Proofs.Ytjifibloagkeeaa
open Go Go.Lg Go.Lg.Fld Go.Lg.Sg
set_option maxRecDepth 100000
section
variable {P : Program} {n : Nat} {C : Ctx} {c : Code} {Q : Exit → St → Prop} {X : Nat → Option Obj} {s : List (Nat × LV)} {bx : List (Nat × Option Box)} {k : Nat}
end
variable (X : Nat → Option Obj)
end Go.Proofs.Ytjifibloagkeeaa
end
section
namespace Go.Lg.Fld
open Go Go.Lg
end Go.Lg.Fld
namespace Go.Proofs.Ytjifibloagkeeaa
open Go Go.Lg Go.Lg.Fld
set_option maxRecDepth 100000
end Go.Proofs.Ytjifibloagkeeaa
end
section
namespace Go.Proofs.Ytjifibloagkeeaa
open Go Go.Lg Go.Lg.Fld Go.Lg.Sg Go.Lg.Arith
set_option maxRecDepth 100000
def greatB16 (cs : List Cp) : Bool := decide (30 < cs.length) || cs.any fun c => decide (12 < c.fs.length)
variable (X : Nat → Option Obj)
theorem greatB16_no {cs : List Cp} (h : greatB16 cs = false) : cs.length ≤ 30 ∧ ∀ c ∈ cs, c.fs.length ≤ 12 := by
  unfold greatB16 at h
  rw [Bool.or_eq_false_iff, decide_eq_false_iff_not, List.any_eq_false] at h
  exact ⟨by omega, fun c hc => by have := h.2 c hc; simpa using this⟩
end Go.Proofs.Ytjifibloagkeeaa
end
section
namespace Go.Proofs.Ytjifibloagkeeaa
open Go Go.Lg Go.Lg.Fld Go.Lg.Sg
set_option maxRecDepth 100000
structure EnIn (X : Nat → Option Obj) (ad : Option Addr) (l : List Nat) : Prop where
  at_ : ∀ (i : Nat) (h : Nat), l[i]? = some h → ∃ (blk off : Nat) (arr : Array Value) (el : TypeId) (fr : Nat × Nat), ad = some ⟨blk, off, none⟩ ∧ X blk = some (.cells arr el fr) ∧ arr[off + i * 1]? = some (.int .u64 (h : Nat))
theorem EnIn.nil {X : Nat → Option Obj} : EnIn X none [] := ⟨fun i h hi => by simp at hi⟩
theorem EnIn.mono {X Y : Nat → Option Obj} (hXY : ∀ b o, X b = some o → Y b = some o) {ad : Option Addr} {l : List Nat} (h : EnIn X ad l) : EnIn Y ad l := ⟨fun i v hv => by
  obtain ⟨blk, off, arr, el, fr, h1, h2, h3⟩ := h.at_ i v hv
  exact ⟨blk, off, arr, el, fr, h1, hXY _ _ h2, h3⟩⟩
variable (X : Nat → Option Obj)
end Go.Proofs.Ytjifibloagkeeaa
end
section
namespace Go.Proofs.Ytjifibloagkeeaa
open Go Go.Lg Go.Lg.Fld Go.Lg.Sg
set_option maxRecDepth 100000
structure Ac where
  kind : Int
  i : Int
  e : Nat
  p : List Pt
structure AcsIn (X : Nat → Option Obj) (ad : Option Addr) (acs : List Ac) : Prop where
  at_ : ∀ (i : Nat) (a : Ac), acs[i]? = some a → ∃ (blk off : Nat) (arr : Array Value) (el : TypeId) (fr : Nat × Nat) (pad : Option Addr) (pcap : Nat), ad = some ⟨blk, off, none⟩ ∧ X blk = some (.cells arr el fr) ∧ off + i * 4 + 4 ≤ arr.size ∧
    (arr.toList.drop (off + i * 4)).take 4 = [.int .i64 a.kind, .int .i64 a.i, .int .u64 (a.e : Nat), .slice pad a.p.length pcap] ∧ PartsC X pad a.p
  small : ∀ a ∈ acs, (-9223372036854775808 ≤ a.kind ∧ a.kind < 9223372036854775808) ∧ (-9223372036854775808 ≤ a.i ∧ a.i < 9223372036854775808) ∧ a.e < 18446744073709551616 ∧ a.p.length < 4611686018427387904 ∧ ∀ x ∈ a.p, x.val.length < 4611686018427387904
theorem AcsIn.mono {X Y : Nat → Option Obj} (hXY : ∀ b o, X b = some o → Y b = some o) {ad : Option Addr} {acs : List Ac} (h : AcsIn X ad acs) : AcsIn Y ad acs := ⟨fun i a ha => by
  obtain ⟨blk, off, arr, el, fr, pad, pcap, h1, h2, h3, h4, h5⟩ := h.at_ i a ha
  exact ⟨blk, off, arr, el, fr, pad, pcap, h1, hXY _ _ h2, h3, h4, h5.mono hXY⟩, h.small⟩
theorem rest_u16 {v : Int} (k : Nat) (hk : 0 < k) (hk2 : k < 9223372036854775808) : ∃ r : Nat, r < k ∧ (IntKind.u64.wrap v).tmod (k : Int) = (r : Nat) := by
  have h0 : 0 ≤ IntKind.u64.wrap v ∧ IntKind.u64.wrap v < 18446744073709551616 := by
    simp only [IntKind.wrap, IntKind.bits, IntKind.signed]
    simp
    omega
  refine ⟨((IntKind.u64.wrap v).tmod (k : Int)).toNat, ?_, ?_⟩
  · have := Int.tmod_lt_of_pos (IntKind.u64.wrap v) (show (0 : Int) < (k : Int) by omega)
    have := Int.tmod_nonneg (k : Int) h0.1
    omega
  · have := Int.tmod_nonneg (k : Int) h0.1
    omega
variable (X : Nat → Option Obj)
end Go.Proofs.Ytjifibloagkeeaa
end
section
namespace Go.Lg
open Go Go.RowKit
section
variable {P : Program} {n : Nat} {ops os : List Oper} {acc : List Eff} {K : List Eff → St → Prop} {s : List (Nat × LV)} {bx : List (Nat × Option Box)} {X : Nat → Option Obj} {σ : St}
theorem LOK.ptrNilX {d : Nat} {op : BinOp} {t t' : TypeId} {x : Operand} {ty : TypeId} {pos : String} {after_ : Array Edge} {g : Option (Nat × Bool)} {r : Bool} {ad : Addr} (hx : σ.ev x = some (.sv (.one (.val (.pointer (some ad)))))) (ht : isPtr P t = true)
    (hop : (op = .eql ∧ r = false) ∨ (op = .neq ∧ r = true)) :
    LOK P n ops ⟨some d, .binOp op t x (.const (.pointer none)) t', ty, pos, after_, g⟩ σ ⟨[(d, .sv (.one (.val (.bool r))))], [], []⟩ :=
  LOK.value fun σ' ha C ι a w hr => by
    have hv : a.eval x = .pointer (some ad) := hr.ev ((ha.ev (x := x) (by simp [Op.operands])).trans hx)
    have hc : a.eval (.const (.pointer none)) = .pointer none := rfl
    rcases hop with ⟨rfl, rfl⟩ | ⟨rfl, rfl⟩
    · exact ⟨_, by simp only [execOp, hv, hc, eqGuard, Sem.run_bind]; simp [run_eql_pointer_nil w t _ (isPtr_spec ht)], rfl⟩
    · exact ⟨_, by simp only [execOp, hv, hc, eqGuard, Sem.run_bind]; simp [run_neq_pointer_nil w t _ (isPtr_spec ht)], rfl⟩
theorem LOK.nilCheckX {d : Nat} {x : Operand} {ty : TypeId} {pos : String} {after_ : Array Edge} {g : Option (Nat × Bool)} {ad : Addr} (hx : σ.ev x = some (.sv (.one (.val (.pointer (some ad)))))) :
    LOK P n ops ⟨some d, .nilCheck x, ty, pos, after_, g⟩ σ ⟨[(d, .sv (.one (.val (.pointer (some ad)))))], [], []⟩ :=
  LOK.value fun σ' ha C ι a w hr => by
    have hv : a.eval x = .pointer (some ad) := hr.ev ((ha.ev (x := x) (by simp [Op.operands])).trans hx)
    exact ⟨.pointer (some ad), by simp only [execOp, hv]; simp, rfl⟩
theorem K.ptrNilX {d : Nat} {op : BinOp} {t t' : TypeId} {x : Operand} {ty : TypeId} {pos : String} {after_ : Array Edge} {g : Option (Nat × Bool)} {r : Bool} {ad : Addr} (hx : (⟨s, bx, X⟩ : St).ev x = some (.sv (.one (.val (.pointer (some ad)))))) (ht : isPtr P t = true)
    (hop : (op = .eql ∧ r = false) ∨ (op = .neq ∧ r = true)) (hw : Want ops s g) (kont : RunK P n ops os ⟨(d, .sv (.one (.val (.bool r)))) :: s, bx, X⟩ (⟨[(d, .sv (.one (.val (.bool r))))], [], []⟩ :: acc) K) :
    RunK P n ops (⟨some d, .binOp op t x (.const (.pointer none)) t', ty, pos, after_, g⟩ :: os) ⟨s, bx, X⟩ acc K := RunK.g1 (LOK.ptrNilX hx ht hop) hw kont
theorem K.nilCheckX {d : Nat} {x : Operand} {ty : TypeId} {pos : String} {after_ : Array Edge} {g : Option (Nat × Bool)} {ad : Addr} (hx : (⟨s, bx, X⟩ : St).ev x = some (.sv (.one (.val (.pointer (some ad)))))) (hw : Want ops s g)
    (kont : RunK P n ops os ⟨(d, .sv (.one (.val (.pointer (some ad))))) :: s, bx, X⟩ (⟨[(d, .sv (.one (.val (.pointer (some ad)))))], [], []⟩ :: acc) K) :
    RunK P n ops (⟨some d, .nilCheck x, ty, pos, after_, g⟩ :: os) ⟨s, bx, X⟩ acc K := RunK.g1 (LOK.nilCheckX hx) hw kont
end
end Go.Lg
end
section
namespace Go.Proofs.Ytjifibloagkeeaa
open Go Go.Lg Go.Lg.Fld Go.Lg.Sg
set_option maxRecDepth 100000
def TbX (X : Nat → Option Obj) (tb : Addr) (t : Tb) : Prop := ∃ (b : Nat) (fr : Nat × Nat) (ad : Option Addr) (cap : Nat) (vC vP : Value), tb = ⟨b, 0, none⟩ ∧
  X b = some (.cells (tblV t (.slice ad t.l.length cap) vC vP).toArray 65 fr) ∧ t.l.length + t.kept ≤ t.most ∧ t.most ≤ 256
theorem TbX.mono {Y Z : Nat → Option Obj} {tb : Addr} {t : Tb} (hYZ : ∀ b o, Y b = some o → Z b = some o) (h : TbX Y tb t) : TbX Z tb t := by
  obtain ⟨b, fr, ad, cap, vC, vP, h1, h2, h3⟩ := h
  exact ⟨b, fr, ad, cap, vC, vP, h1, hYZ _ _ h2, h3⟩
theorem tbR_x {t : Tb} (hk : TbOk t) {b m : Nat} {H X : Nat → Option Obj} (h : (tbR t).holds (b, m) H) (hX : ∀ x o, H x = some o → X x = some o) : TbX X ⟨b, 0, none⟩ t := by
  obtain ⟨_, _, fr, Hs, He, Hr, vE, vC, vP, ps, h2, _, _, _, hI, _⟩ := h
  obtain ⟨ad, cap, hE⟩ := hI.ents.slice
  rw [List.length_map] at hE
  subst hE
  exact ⟨b, fr, ad, cap, vC, vP, rfl, hX _ _ h2, hk.room, hk.most.2⟩
abbrev Lpx (tb : Addr) : LV := .sv (.one (.val (.pointer (some tb))))
variable (X : Nat → Option Obj)
theorem tSigX (tb : Addr) (t : Tb) (h : TbX X tb t) : PSpec Try.prog X 10 [Lpx tb] (Ln .u32 (t.set : Nat)) := by
  obtain ⟨b, fr, ad, cap, vC, vP, rfl, hX, _⟩ := h
  have h0 : (tblV t (.slice ad t.l.length cap) vC vP).toArray[0]? = some (.int .u32 (t.set : Nat)) := rfl
  refine PSpec.intro Try.func10 rfl (by kernel_rfl) rfl rfl ?_
  intro C
  (refine LWP.seq <| LWP.region (by kernel_rfl) <| kas rfl <| RunK.nil <| LWP.seq <| LWP.seq <| LWP.region (by kernel_rfl) <| kmv rfl <| K.ptrNilX rfl (by kernel_rfl) (Or.inl ⟨rfl, rfl⟩) .plain ?_; refine RunK.nil <| LWP.condF rfl ?_; refine LWP.skip ?_; refine LWP.seq <| LWP.region (by kernel_rfl) <| kmv rfl <| K.nilCheckX rfl .plain ?_; refine K.fieldAddrX rfl rfl .plain ?_; refine K.loadX rfl hX rfl h0 .plain <| kas rfl <| RunK.nil <| LWP.ret ?_)
  exact ⟨[_], ⟨rfl, trivial⟩, rfl⟩
end Go.Proofs.Ytjifibloagkeeaa
end
section
namespace Go.Proofs.Ytjifibloagkeeaa
open Go Go.Lg Go.Lg.Fld Go.Lg.Sg
set_option maxRecDepth 100000
abbrev Wy := Int × Int × Bool
structure Gr where
  sc : Sc
  archs : Nat
  rows : Nat
  l : List Nat
  w : List Wy
def goodG (s : Sc) (archs rows : Int) : Bool := decide (chkE s = 0) && decide (1 ≤ archs) && decide (archs ≤ 64) && decide (1 ≤ rows) && decide (rows ≤ 256)
def findG (l : List Nat) (s : Nat) : Option Nat := l.findIdx? fun x => x == s
def canG (sc : Sc) (s : Nat) : Bool := isB s && (idsL s).all (hasC sc.cs)
def makeE (g : Gr) (s : Nat) : Int := if (findG g.l s).isSome = true then 0 else if canG g.sc s = true then (if g.archs ≤ g.l.length then 5 else 0) else 6
def makeL (g : Gr) (s : Nat) : List Nat := if (findG g.l s).isSome = true then g.l else if makeE g s = 0 then g.l ++ [s] else g.l
def makeG (g : Gr) (s : Nat) : Gr := { g with l := makeL g s }
def makeN (g : Gr) (s : Nat) : Nat := match findG g.l s with | some i => i | none => if makeE g s = 0 then g.l.length else 0
def knowsW (w : List Wy) (x : Wy) : Bool := w.any fun y => y == x
def addW (w : List Wy) (x : Wy) : List Wy := if knowsW w x = true then w else w ++ [x]
def nextS (s : Nat) (c : Int) (a : Bool) : Nat := if a = true then withN s c else withoutN s c
def rowG (g : Gr) (i : Int) : Bool := decide (0 ≤ i) && decide (i < g.l.length)
def setAt (g : Gr) (i : Int) : Nat := g.l.getD i.toNat 0
def stepE (g : Gr) (i c : Int) (a : Bool) : Int :=
  if rowG g i = true then (if hasC g.sc.cs c = true then (if hasB (setAt g i) c = a then 7 else makeE g (nextS (setAt g i) c a)) else 6) else 3
def stepW (g : Gr) (i c : Int) (a : Bool) : List Wy := addW (addW g.w (i, c, a)) ((makeN g (nextS (setAt g i) c a) : Nat), c, !a)
def stepG (g : Gr) (i c : Int) (a : Bool) : Gr := if stepE g i c a = 0 then { g with l := makeL g (nextS (setAt g i) c a), w := stepW g i c a } else g
def stepN (g : Gr) (i c : Int) (a : Bool) : Nat := if stepE g i c a = 0 then makeN g (nextS (setAt g i) c a) else 0
structure GrOk (g : Gr) : Prop where
  sc : chkE g.sc = 0
  archs : 1 ≤ g.archs ∧ g.archs ≤ 64
  rows : 1 ≤ g.rows ∧ g.rows ≤ 256
  room : g.l.length ≤ g.archs
  nd : g.l.Nodup
  can : ∀ s ∈ g.l, canG g.sc s = true ∧ s < 4294967296
theorem findG_some {l : List Nat} {s i : Nat} (h : findG l s = some i) : l[i]? = some s := by
  unfold findG at h
  obtain ⟨hi, h1, _⟩ := List.findIdx?_eq_some_iff_getElem.1 h
  rw [List.getElem?_eq_getElem hi]
  simp at h1
  rw [h1]
theorem findG_none {l : List Nat} {s : Nat} : findG l s = none ↔ s ∉ l := by
  unfold findG
  rw [List.findIdx?_eq_none_iff]
  constructor
  · intro h hm; have := h s hm; simp at this
  · intro h x hx; simp; rintro rfl; exact h hx
theorem findG_at {l : List Nat} (hn : l.Nodup) {s i : Nat} (h : l[i]? = some s) : findG l s = some i := by
  cases hf : findG l s with
  | none => exact absurd (List.mem_of_getElem? h) (findG_none.1 hf)
  | some j =>
    have hj := findG_some hf
    have hjl := (List.getElem?_eq_some_iff.1 hj).1
    rw [(List.getElem?_inj hjl hn).1 (hj.trans h.symm)]
theorem makeE_zero {g : Gr} {s : Nat} (h : makeE g s = 0) : (∃ i, findG g.l s = some i) ∨ (findG g.l s = none ∧ canG g.sc s = true ∧ g.l.length < g.archs) := by
  unfold makeE at h
  cases hf : findG g.l s with
  | some i => exact .inl ⟨i, rfl⟩
  | none =>
    rw [hf] at h
    simp only [Option.isSome_none, Bool.false_eq_true, if_false] at h
    by_cases hc : canG g.sc s = true
    · rw [if_pos hc] at h
      by_cases hl : g.archs ≤ g.l.length
      · rw [if_pos hl] at h; cases h
      · exact .inr ⟨rfl, hc, by omega⟩
    · rw [if_neg hc] at h; cases h
theorem make_some {g : Gr} {s i : Nat} (h : findG g.l s = some i) : makeE g s = 0 ∧ makeL g s = g.l ∧ makeN g s = i := by
  refine ⟨?_, ?_, ?_⟩
  · unfold makeE; rw [h]; rfl
  · unfold makeL; rw [h]; rfl
  · unfold makeN; rw [h]
theorem make_new {g : Gr} {s : Nat} (h : findG g.l s = none) (he : makeE g s = 0) : makeL g s = g.l ++ [s] ∧ makeN g s = g.l.length := by
  refine ⟨?_, ?_⟩
  · unfold makeL; rw [h, if_neg (by decide), if_pos he]
  · unfold makeN; rw [h]; simp only; rw [if_pos he]
theorem make_no {g : Gr} {s : Nat} (he : makeE g s ≠ 0) : makeL g s = g.l ∧ makeN g s = 0 ∧ findG g.l s = none := by
  have hf : findG g.l s = none := by
    cases hf : findG g.l s with
    | none => rfl
    | some i => exact absurd (make_some hf).1 he
  refine ⟨?_, ?_, hf⟩
  · unfold makeL; rw [hf, if_neg (by decide), if_neg he]
  · unfold makeN; rw [hf]; simp only; rw [if_neg he]
theorem makeN_at {g : Gr} {s : Nat} (he : makeE g s = 0) : (makeL g s)[makeN g s]? = some s := by
  rcases makeE_zero he with ⟨i, hi⟩ | ⟨hf, _⟩
  · obtain ⟨_, h2, h3⟩ := make_some hi
    rw [h2, h3]; exact findG_some hi
  · obtain ⟨h1, h2⟩ := make_new hf he
    rw [h1, h2, List.getElem?_append_right (Nat.le_refl _), Nat.sub_self]; rfl
theorem makeL_pre {g : Gr} {s : Nat} : ∃ t, makeL g s = g.l ++ t ∧ t.length ≤ 1 ∧ (makeE g s ≠ 0 → t = []) := by
  by_cases he : makeE g s = 0
  · rcases makeE_zero he with ⟨i, hi⟩ | ⟨hf, _⟩
    · exact ⟨[], by rw [(make_some hi).2.1, List.append_nil], Nat.zero_le _, fun h => absurd he h⟩
    · exact ⟨[s], (make_new hf he).1, Nat.le_refl _, fun h => absurd he h⟩
  · exact ⟨[], by rw [(make_no he).1, List.append_nil], Nat.zero_le _, fun _ => rfl⟩
theorem GrOk.make {g : Gr} (h : GrOk g) {s : Nat} (hs : s < 4294967296) : GrOk (makeG g s) := by
  by_cases he : makeE g s = 0
  · rcases makeE_zero he with ⟨i, hi⟩ | ⟨hf, hc, hl⟩
    · have e : makeG g s = g := by unfold makeG; rw [(make_some hi).2.1]
      rw [e]; exact h
    · have e := (make_new hf he).1
      refine ⟨h.sc, h.archs, h.rows, ?_, ?_, ?_⟩
      · show (makeL g s).length ≤ g.archs
        rw [e, List.length_append]; exact hl
      · show (makeL g s).Nodup
        rw [e]
        exact List.nodup_append.2 ⟨h.nd, by simp, fun x hx y hy e => findG_none.1 hf (by simp at hy; rw [← hy, ← e]; exact hx)⟩
      · intro x hx
        have hx : x ∈ makeL g s := hx
        rw [e] at hx
        rcases List.mem_append.1 hx with hx | hx
        · exact h.can x hx
        · rw [List.mem_singleton.1 hx]; exact ⟨hc, hs⟩
  · have e : makeG g s = g := by unfold makeG; rw [(make_no he).1]
    rw [e]; exact h
theorem GrOk.ways {g : Gr} (h : GrOk g) (w : List Wy) : GrOk { g with w := w } := ⟨h.sc, h.archs, h.rows, h.room, h.nd, h.can⟩
theorem GrOk.new {s : Sc} {archs rows : Nat} (h : goodG s (archs : Nat) (rows : Nat) = true) : GrOk ⟨s, archs, rows, [], []⟩ := by
  unfold goodG at h
  simp only [Bool.and_eq_true, decide_eq_true_eq] at h
  exact ⟨h.1.1.1.1, by show 1 ≤ archs ∧ archs ≤ 64; omega, by show 1 ≤ rows ∧ rows ≤ 256; omega, Nat.zero_le _, List.nodup_nil, fun s hs => by cases hs⟩
theorem setAt_of {g : Gr} {i s : Nat} (h : g.l[i]? = some s) : setAt g (i : Nat) = s := by
  unfold setAt
  rw [Int.toNat_natCast, List.getD_eq_getElem?_getD, h]; rfl
theorem rowG_at {g : Gr} {i : Int} (h : rowG g i = true) : ∃ (k s : Nat), i = (k : Int) ∧ g.l[k]? = some s := by
  unfold rowG at h
  simp only [Bool.and_eq_true, decide_eq_true_eq] at h
  obtain ⟨k, rfl⟩ := Int.eq_ofNat_of_zero_le h.1
  exact ⟨k, _, rfl, List.getElem?_eq_getElem (by omega)⟩
theorem rowG_of {g : Gr} {k s : Nat} (h : g.l[k]? = some s) : rowG g (k : Nat) = true := by
  have := (List.getElem?_eq_some_iff.1 h).1
  unfold rowG
  rw [decide_eq_true (by omega), decide_eq_true (by omega)]; rfl
theorem okJ_of {sc : Sc} (h : chkE sc = 0) {c : Int} (hc : hasC sc.cs c = true) : okJ c = true := by
  unfold hasC at hc
  obtain ⟨x, hx, e⟩ := List.any_eq_true.1 hc
  have e := beq_iff_eq.1 e
  unfold chkE at h
  split at h
  · cases h
  obtain ⟨j, hj⟩ := List.mem_iff_getElem?.1 hx
  have h1 := firstE_zero h j (Nat.zero_le _) (by have := (List.getElem?_eq_some_iff.1 hj).1; omega)
  unfold cmpE at h1
  rw [hj] at h1
  simp only at h1
  split at h1
  · cases h1
  rename_i hn
  unfold okJ
  rw [Bool.and_eq_true, decide_eq_true_eq, decide_eq_true_eq]
  omega
theorem with_back {s : Nat} {c : Int} (hj : okJ c = true) (h : hasB s c = false) : withoutN (withN s c) c = s ∧ hasB (withN s c) c = true := by
  have hb : s.testBit c.toNat = false := by unfold hasB at h; rw [hj, Bool.true_and] at h; exact h
  refine ⟨Nat.eq_of_testBit_eq fun j => ?_, ?_⟩
  · rw [without_bit, with_bit, hj, Bool.true_and]
    by_cases e : c.toNat = j
    · rw [decide_eq_true e, ← e, hb]; rfl
    · rw [decide_eq_false e]; simp
  · unfold hasB
    rw [with_bit, hj, decide_eq_true rfl]; simp
theorem without_back {s : Nat} {c : Int} (hj : okJ c = true) (h : hasB s c = true) : withN (withoutN s c) c = s ∧ hasB (withoutN s c) c = false := by
  have hb : s.testBit c.toNat = true := by unfold hasB at h; rw [hj, Bool.true_and] at h; exact h
  refine ⟨Nat.eq_of_testBit_eq fun j => ?_, ?_⟩
  · rw [with_bit, without_bit, hj, Bool.true_and]
    by_cases e : c.toNat = j
    · rw [decide_eq_true e, ← e, hb]; rfl
    · rw [decide_eq_false e]; simp
  · unfold hasB
    rw [without_bit, hj, decide_eq_true rfl]; simp
theorem next_back {s : Nat} {c : Int} {a : Bool} (hj : okJ c = true) (h : hasB s c ≠ a) : nextS (nextS s c a) c (!a) = s ∧ hasB (nextS s c a) c = a := by
  cases a with
  | true =>
    have h : hasB s c = false := by simpa using h
    exact with_back hj h
  | false =>
    have h : hasB s c = true := by simpa using h
    exact without_back hj h
theorem next_lt {s : Nat} {c : Int} {a : Bool} (hs : s < 4294967296) : nextS s c a < 4294967296 := by
  unfold nextS
  split
  · exact with_lt hs
  · exact without_lt hs
theorem knows_add (w : List Wy) (x : Wy) : knowsW (addW w x) x = true := by
  unfold addW
  by_cases h : knowsW w x = true
  · rw [if_pos h]; exact h
  · rw [if_neg h]
    unfold knowsW
    rw [List.any_append]
    simp
theorem knows_more {w : List Wy} {x y : Wy} (h : knowsW w x = true) : knowsW (addW w y) x = true := by
  unfold addW
  split
  · exact h
  · unfold knowsW at h ⊢
    rw [List.any_append, h]; rfl
theorem add_same {w : List Wy} {x : Wy} (h : knowsW w x = true) : addW w x = w := by unfold addW; rw [if_pos h]
theorem addW_len (w : List Wy) (x : Wy) : (addW w x).length ≤ w.length + 1 := by
  unfold addW
  split
  · omega
  · rw [List.length_append]; exact Nat.le_refl _
structure Stepped (g : Gr) (i : Int) (c : Int) (a : Bool) (k s : Nat) : Prop where
  i : i = (k : Int)
  at_ : g.l[k]? = some s
  has : hasC g.sc.cs c = true
  ne : hasB s c ≠ a
  make : makeE g (nextS s c a) = 0
theorem step_zero {g : Gr} {i c : Int} {a : Bool} (h : stepE g i c a = 0) : ∃ k s, Stepped g i c a k s := by
  unfold stepE at h
  by_cases h1 : rowG g i = true
  · rw [if_pos h1] at h
    obtain ⟨k, s, rfl, hs⟩ := rowG_at h1
    rw [setAt_of hs] at h
    by_cases h2 : hasC g.sc.cs c = true
    · rw [if_pos h2] at h
      by_cases h3 : hasB s c = a
      · rw [if_pos h3] at h; cases h
      · rw [if_neg h3] at h
        exact ⟨k, s, rfl, hs, h2, h3, h⟩
    · rw [if_neg h2] at h; cases h
  · rw [if_neg h1] at h; cases h
theorem Stepped.zero {g : Gr} {i c : Int} {a : Bool} {k s : Nat} (h : Stepped g i c a k s) : stepE g i c a = 0 := by
  unfold stepE
  rw [h.i, if_pos (rowG_of h.at_), if_pos h.has, setAt_of h.at_, if_neg h.ne]; exact h.make
theorem Stepped.step {g : Gr} {i c : Int} {a : Bool} {k s : Nat} (h : Stepped g i c a k s) : stepG g i c a = { g with l := makeL g (nextS s c a), w := addW (addW g.w (i, c, a)) ((makeN g (nextS s c a) : Nat), c, !a) } ∧ stepN g i c a = makeN g (nextS s c a) := by
  have hz := h.zero
  have hs : setAt g i = s := by rw [h.i]; exact setAt_of h.at_
  refine ⟨?_, ?_⟩
  · unfold stepG stepW; rw [if_pos hz, hs]
  · unfold stepN; rw [if_pos hz, hs]
theorem GrOk.step {g : Gr} (h : GrOk g) (i c : Int) (a : Bool) : GrOk (stepG g i c a) := by
  by_cases hz : stepE g i c a = 0
  · obtain ⟨k, s, hS⟩ := step_zero hz
    rw [hS.step.1]
    have := (h.make (s := nextS s c a) (next_lt (h.can s (List.mem_of_getElem? hS.at_)).2)).ways (addW (addW g.w (i, c, a)) ((makeN g (nextS s c a) : Nat), c, !a))
    exact this
  · unfold stepG; rw [if_neg hz]; exact h
theorem step_back {g : Gr} (hk : GrOk g) {i c : Int} {a : Bool} {k s : Nat} (h : Stepped g i c a k s) : ∃ (n : Nat), stepN g i c a = n ∧ (stepG g i c a).l[n]? = some (nextS s c a) ∧ (stepG g i c a).l[k]? = some s ∧ knowsW (stepG g i c a).w (i, c, a) = true ∧ knowsW (stepG g i c a).w ((n : Nat), c, !a) = true ∧
    stepE (stepG g i c a) (n : Nat) c (!a) = 0 ∧ stepN (stepG g i c a) (n : Nat) c (!a) = k ∧ stepG (stepG g i c a) (n : Nat) c (!a) = stepG g i c a ∧
    stepE (stepG g i c a) i c a = 0 ∧ stepN (stepG g i c a) i c a = n ∧ stepG (stepG g i c a) i c a = stepG g i c a := by
  have hj := okJ_of hk.sc h.has
  obtain ⟨hb1, hb2⟩ := next_back hj h.ne
  have hok := hk.step i c a
  obtain ⟨e1, e2⟩ := h.step
  have hat := makeN_at h.make
  generalize hn : makeN g (nextS s c a) = n at *
  obtain ⟨t, ht, _, _⟩ := makeL_pre (g := g) (s := nextS s c a)
  have hg : (stepG g i c a).l = makeL g (nextS s c a) := by rw [e1]
  have hgw : (stepG g i c a).w = addW (addW g.w (i, c, a)) ((n : Nat), c, !a) := by rw [e1]
  have hgs : (stepG g i c a).sc = g.sc := by rw [e1]
  have hl1 : (stepG g i c a).l[n]? = some (nextS s c a) := by rw [hg]; exact hat
  have hl0 : (stepG g i c a).l[k]? = some s := by
    rw [hg, ht, List.getElem?_append_left (List.getElem?_eq_some_iff.1 h.at_).1]; exact h.at_
  have hk1 : knowsW (stepG g i c a).w (i, c, a) = true := by rw [hgw]; exact knows_more (knows_add _ _)
  have hk2 : knowsW (stepG g i c a).w ((n : Nat), c, !a) = true := by rw [hgw]; exact knows_add _ _
  generalize hG : stepG g i c a = G at *
  have f0 := findG_at hok.nd hl0
  have f1 := findG_at hok.nd hl1
  have m0 := make_some f0
  have m1 := make_some f1
  have S1 : Stepped G (n : Nat) c (!a) n (nextS s c a) := ⟨rfl, hl1, by rw [hgs]; exact h.has, by rw [hb2]; cases a <;> decide, by rw [hb1]; exact m0.1⟩
  have S2 : Stepped G i c a k s := ⟨h.i, hl0, by rw [hgs]; exact h.has, h.ne, m1.1⟩
  obtain ⟨s1, s2⟩ := S1.step
  obtain ⟨t1, t2⟩ := S2.step
  rw [hb1, m0.2.1, m0.2.2, Bool.not_not] at s1
  rw [hb1, m0.2.2] at s2
  rw [m1.2.1, m1.2.2] at t1
  rw [m1.2.2] at t2
  have hki : (k : Int) = i := h.i.symm
  refine ⟨n, e2, hl1, hl0, hk1, hk2, S1.zero, s2, ?_, S2.zero, t2, ?_⟩
  · rw [s1, add_same hk2, hki, add_same hk1]
  · rw [t1, add_same hk1, add_same hk2]
theorem step_pre (g : Gr) (i c : Int) (a : Bool) : ∃ t, (stepG g i c a).l = g.l ++ t ∧ t.length ≤ 1 ∧ (stepE g i c a ≠ 0 → t = []) := by
  by_cases hz : stepE g i c a = 0
  · obtain ⟨t, h1, h2, _⟩ := makeL_pre (g := g) (s := nextS (setAt g i) c a)
    refine ⟨t, ?_, h2, fun h => absurd hz h⟩
    unfold stepG; rw [if_pos hz]; exact h1
  · exact ⟨[], by unfold stepG; rw [if_neg hz, List.append_nil], Nat.zero_le _, fun _ => rfl⟩
theorem step_ways (g : Gr) (i c : Int) (a : Bool) : (stepG g i c a).w.length ≤ g.w.length + 2 := by
  unfold stepG
  split
  · show (stepW g i c a).length ≤ _
    unfold stepW
    have h1 := addW_len (addW g.w (i, c, a)) ((makeN g (nextS (setAt g i) c a) : Nat), c, !a)
    have h2 := addW_len g.w (i, c, a)
    omega
  · omega
theorem step_same (g : Gr) (i c : Int) (a : Bool) : (stepG g i c a).sc = g.sc ∧ (stepG g i c a).archs = g.archs ∧ (stepG g i c a).rows = g.rows := by
  unfold stepG
  split <;> exact ⟨rfl, rfl, rfl⟩
end Go.Proofs.Ytjifibloagkeeaa
end
section
namespace Go.Lg
open Go Go.RowKit Go.WideShapes
structure MapIn (P : Program) (kt : TypeId) (X : Nat → Option Obj) (b : Nat) (m : List (Value × Value)) : Prop where
  ex : ∃ es clock, X b = some (.map es clock) ∧ es.toList.map (fun x : MapEntry => (x.key, x.val)) = m ∧ (m.map (·.1)).Nodup ∧ ∀ p ∈ m, ∃ l, Go.keyOf P kt p.1 = some l
theorem MapIn.mono {P : Program} {kt : TypeId} {X Y : Nat → Option Obj} {b : Nat} {m : List (Value × Value)} (h : MapIn P kt X b m) (hXY : ∀ b o, X b = some o → Y b = some o) : MapIn P kt Y b m := by
  obtain ⟨es, clock, h1, h2⟩ := h.ex
  exact ⟨es, clock, hXY _ _ h1, h2⟩
theorem MapIn.of {P : Program} {kt : TypeId} {m : List (Value × Value)} {ρ : Nat × Nat} {H : Nat → Option Obj} (h : (mapR P kt m).holds ρ H) : MapIn P kt H ρ.1 m ∧ H ρ.1 ≠ none ∧ ∀ x, H x ≠ none → x = ρ.1 := by
  obtain ⟨es, clock, rfl, h2⟩ := h
  refine ⟨⟨es, clock, withBlock_at _ _ _, h2⟩, by rw [withBlock_at]; simp, fun x hx => ?_⟩
  unfold withBlock at hx
  split at hx
  · assumption
  · exact absurd rfl hx
theorem MapIn.alone {P : Program} {kt : TypeId} {X : Nat → Option Obj} {b : Nat} {m : List (Value × Value)} (h : MapIn P kt X b m) (n : Nat) : ∃ o, X b = some o ∧ (mapR P kt m).holds (b, n) (withBlock (fun _ => none) b o) := by
  obtain ⟨es, clock, h1, h2⟩ := h.ex
  exact ⟨_, h1, es, clock, rfl, h2⟩
section
variable {P : Program} {n : Nat} {ops os : List Oper} {acc : List Eff} {K : List Eff → St → Prop} {s : List (Nat × LV)} {bx : List (Nat × Option Box)} {X : Nat → Option Obj} {σ : St}
theorem run_lookup_at {w : World} {b : Nat} {t kt et : TypeId} {m : List (Value × Value)} {key v z : Value} {l : Lit} {r : Bool} (hm : mapOf P t = some (kt, et)) (L : KL P kt) (hkey : Go.keyOf P kt key = some l) (hz : (P.info? et).bind (·.zero) = some z) (hat : At m key v z) (hr : r = true ↔ ∃ p ∈ m, p.1 = key)
    (hI : MapIn P kt (fun b => w.heap[b]?) b m) : (Instr.lookup t (.map (some b)) key true).run P w = .ok (.tuple #[v, .bool r]) w := by
  obtain ⟨es, clock, hb, he, hnd, hkeys⟩ := hI.ex
  have ht := mapOf_spec hm
  have hzr : (zeroValue et).run P w = .ok z w := by
    cases hi : P.info? et with
    | none => rw [hi] at hz; cases hz
    | some i => rw [hi] at hz; have hz : i.zero = some z := hz; simp [zeroValue, typeInfo, hi, hz]
  have hall : ∀ x ∈ es.toList, ∃ l, Go.keyOf P kt x.key = some l := fun x hx => by
    refine hkeys (x.key, x.val) ?_
    rw [← he]
    exact List.mem_map.2 ⟨x, hx, rfl⟩
  rcases L.find w hkey es.toList hall with ⟨h1, h2⟩ | ⟨j, e0, h1, h2, h3⟩
  · have hvz : v = z := by
      rcases hat with h4 | ⟨_, h4⟩
      · rw [← he] at h4
        obtain ⟨x, hx, hxe⟩ := List.mem_map.1 h4
        cases hxe
        exact absurd rfl (h2 x hx)
      · exact h4
    have hr0 : r = false := by
      cases r with
      | false => rfl
      | true =>
        obtain ⟨p, hp, h5⟩ := hr.1 rfl
        rw [← he] at hp
        obtain ⟨x, hx, rfl⟩ := List.mem_map.1 hp
        exact absurd h5 (h2 x hx)
    simp [Instr.lookup, run_underlying ht, MapKept.run_getObj_map hb, L.check w _ hkey, h1, hzr, Result.andThen, hvz, hr0]
  · have hmem : e0 ∈ es.toList := List.mem_of_getElem? h2
    have hv0 : e0.val = v := by
      rcases hat with h4 | ⟨h4, _⟩
      · obtain ⟨i, hi⟩ := List.getElem?_of_mem h4
        have hmj : m[j]? = some (key, e0.val) := by rw [← he, List.getElem?_map, h2, ← h3]; rfl
        exact (same_at hnd hmj hi)
      · refine absurd h3 (h4 (e0.key, e0.val) ?_)
        rw [← he]
        exact List.mem_map.2 ⟨e0, hmem, rfl⟩
    have hr1 : r = true := by
      refine hr.2 ⟨(e0.key, e0.val), ?_, h3⟩
      rw [← he]
      exact List.mem_map.2 ⟨e0, hmem, rfl⟩
    simp [Instr.lookup, run_underlying ht, MapKept.run_getObj_map hb, L.check w _ hkey, h1, Result.andThen, hv0, hr1]
theorem LOK.lookupOkX {d b : Nat} {t kt et : TypeId} {x y : Operand} {ty : TypeId} {pos : String} {after_ : Array Edge} {g : Option (Nat × Bool)} {m : List (Value × Value)} {key v z : Value} {l : Lit} {r : Bool} {lv : LV}
    (hx : σ.ev x = some (.sv (.one (.val (.map (some b)))))) (hy : σ.ev y = some lv) (hlv : ∀ (S : Nat → Option (Option Box)) (ι : Nat → Nat × Nat) (w : Value), lv.rel S ι w → w = key) (hI : MapIn P kt σ.X b m) (hm : mapOf P t = some (kt, et)) (L : KL P kt) (hkey : Go.keyOf P kt key = some l) (hz : (P.info? et).bind (·.zero) = some z) (hat : At m key v z) (hr : r = true ↔ ∃ p ∈ m, p.1 = key) :
    LOK P n ops ⟨some d, .lookup t x y true, ty, pos, after_, g⟩ σ ⟨[(d, .tup [.one (.val v), .one (.val (.bool r))])], [], []⟩ :=
  LOK.value fun σ' ha C ι a w hrl => by
    have hv : a.eval x = .map (some b) := hrl.ev ((ha.ev (x := x) (by simp [Op.operands])).trans hx)
    have hkv : a.eval y = key := hlv _ _ _ (hrl.ev ((ha.ev (x := y) (by simp [Op.operands])).trans hy))
    have hI' : MapIn P kt (fun b => w.heap[b]?) b m := hI.mono fun b o h => hrl.ext b o (by rw [ha.X]; exact h)
    have hrun := run_lookup_at (w := w) hm L hkey hz hat hr hI'
    exact ⟨.tuple #[v, .bool r], by simp only [execOp, hv, hkv, Sem.run_bind, hrun, Result.andThen_ok, Sem.run_pure], ⟨_, rfl, rfl, rfl, trivial⟩⟩
theorem K.lookupOkX {d b : Nat} {t kt et : TypeId} {x y : Operand} {ty : TypeId} {pos : String} {after_ : Array Edge} {g : Option (Nat × Bool)} {m : List (Value × Value)} {key v z : Value} {l : Lit} {r : Bool} {lv : LV}
    (hx : (⟨s, bx, X⟩ : St).ev x = some (.sv (.one (.val (.map (some b)))))) (hy : (⟨s, bx, X⟩ : St).ev y = some lv) (hlv : ∀ (S : Nat → Option (Option Box)) (ι : Nat → Nat × Nat) (w : Value), lv.rel S ι w → w = key) (hI : MapIn P kt X b m) (hm : mapOf P t = some (kt, et)) (L : KL P kt) (hkey : Go.keyOf P kt key = some l) (hz : (P.info? et).bind (·.zero) = some z) (hat : At m key v z) (hr : r = true ↔ ∃ p ∈ m, p.1 = key) (hw : Want ops s g)
    (kont : RunK P n ops os ⟨(d, .tup [.one (.val v), .one (.val (.bool r))]) :: s, bx, X⟩ (⟨[(d, .tup [.one (.val v), .one (.val (.bool r))])], [], []⟩ :: acc) K) :
    RunK P n ops (⟨some d, .lookup t x y true, ty, pos, after_, g⟩ :: os) ⟨s, bx, X⟩ acc K := RunK.g1 (LOK.lookupOkX hx hy hlv hI hm L hkey hz hat hr) hw kont
theorem LOK.lenMapX {d b : Nat} {t kt et : TypeId} {x : Operand} {ty : TypeId} {pos : String} {after_ : Array Edge} {g : Option (Nat × Bool)} {m : List (Value × Value)} {r : Int}
    (hx : σ.ev x = some (.sv (.one (.val (.map (some b)))))) (hI : MapIn P kt σ.X b m) (hm : mapOf P t = some (kt, et)) (hr' : ((m.length : Nat) : Int) = r) :
    LOK P n ops ⟨some d, .call ⟨.builtin .len, #[x], #[t]⟩, ty, pos, after_, g⟩ σ ⟨[(d, .sv (.one (.val (.int .i64 r))))], [], []⟩ :=
  LOK.value fun σ' ha C ι a w hr => by
    subst hr'
    have hv : a.eval x = .map (some b) := hr.ev ((ha.ev (x := x) (by simp [Op.operands, Call.operands])).trans hx)
    obtain ⟨es, clock, hb, he, hnd, hkeys⟩ := hI.ex
    have hb : w.heap[b]? = some (.map es clock) := hr.ext b _ (by rw [ha.X]; exact hb)
    have ht := mapOf_spec hm
    have hsz : es.size = m.length := by rw [← he, List.length_map, Array.length_toList]
    exact ⟨_, by simp [execOp, resolve, invoke, builtin, Builtin.len_, hv, run_underlying ht, MapKept.run_getObj_map hb, goInt, hsz, Result.andThen], rfl⟩
theorem K.lenMapX {d b : Nat} {t kt et : TypeId} {x : Operand} {ty : TypeId} {pos : String} {after_ : Array Edge} {g : Option (Nat × Bool)} {m : List (Value × Value)} {r : Int}
    (hx : (⟨s, bx, X⟩ : St).ev x = some (.sv (.one (.val (.map (some b)))))) (hI : MapIn P kt X b m) (hm : mapOf P t = some (kt, et)) (hr' : ((m.length : Nat) : Int) = r) (hw : Want ops s g)
    (kont : RunK P n ops os ⟨(d, .sv (.one (.val (.int .i64 r)))) :: s, bx, X⟩ (⟨[(d, .sv (.one (.val (.int .i64 r))))], [], []⟩ :: acc) K) :
    RunK P n ops (⟨some d, .call ⟨.builtin .len, #[x], #[t]⟩, ty, pos, after_, g⟩ :: os) ⟨s, bx, X⟩ acc K := RunK.g1 (LOK.lenMapX hx hI hm hr') hw kont
theorem run_update_at {w : World} {b : Nat} {t kt et : TypeId} {m m' : List (Value × Value)} {key v : Value} {l : Lit} (hm : mapOf P t = some (kt, et)) (L : KL P kt) (hkey : Go.keyOf P kt key = some l) (hput : Put m key v m') {es : Array MapEntry} {clock : Nat}
    (hb : w.heap[b]? = some (.map es clock)) (he : es.toList.map (fun x : MapEntry => (x.key, x.val)) = m) (hnd : (m.map (·.1)).Nodup) (hkeys : ∀ p ∈ m, ∃ l, Go.keyOf P kt p.1 = some l) :
    ∃ es' clock', (Instr.mapUpdate t (.map (some b)) key v).run P w = .ok () { w with heap := w.heap.setIfInBounds b (.map es' clock') } ∧ es'.toList.map (fun x : MapEntry => (x.key, x.val)) = m' ∧ (m'.map (·.1)).Nodup ∧ ∀ p ∈ m', ∃ l, Go.keyOf P kt p.1 = some l := by
  have ht := mapOf_spec hm
  have hall : ∀ x ∈ es.toList, ∃ l, Go.keyOf P kt x.key = some l := fun x hx => by
    refine hkeys (x.key, x.val) ?_
    rw [← he]
    exact List.mem_map.2 ⟨x, hx, rfl⟩
  rcases L.find w hkey es.toList hall with ⟨h1, h2⟩ | ⟨j, e0, h1, h2, h3⟩
  · have hno : ∀ p ∈ m, p.1 ≠ key := fun p hp => by
      rw [← he] at hp
      obtain ⟨x, hx, rfl⟩ := List.mem_map.1 hp
      exact h2 x hx
    have hm' : m' = m ++ [(key, v)] := by
      rcases hput with ⟨i, old, h4, _⟩ | ⟨_, h4⟩
      · exact absurd rfl (hno _ (List.mem_of_getElem? h4))
      · exact h4
    refine ⟨es.push { key := key, val := v, born := clock }, clock + 1, ?_, by rw [hm', Array.toList_push, List.map_append, he]; rfl, ?_, ?_⟩
    · simp [Instr.mapUpdate, run_underlying ht, MapKept.run_getObj_map hb, L.check w _ hkey, h1, MapKept.run_setObj_map _ hb, Result.andThen]
    · rw [hm', List.map_append]
      refine List.nodup_append.2 ⟨hnd, by simp, fun x hx y hy e => ?_⟩
      obtain ⟨p, hp, rfl⟩ := List.mem_map.1 hx
      simp at hy
      rw [hy] at e
      exact hno p hp e
    · intro p hp
      rw [hm'] at hp
      rcases List.mem_append.1 hp with hp | hp
      · exact hkeys p hp
      · simp at hp; subst hp; exact ⟨l, hkey⟩
  · have hj : es[j]? = some e0 := by simpa using h2
    have hmj : m[j]? = some (key, e0.val) := by rw [← he, List.getElem?_map, h2, ← h3]; rfl
    have hm' : m' = m.set j (key, v) := by
      rcases hput with ⟨i, old, h4, h5⟩ | ⟨h4, _⟩
      · have hij : i = j := same_ix hnd h4 hmj
        rw [h5, hij]
      · exact absurd rfl (h4 _ (List.mem_of_getElem? hmj))
    refine ⟨es.modify j fun x => { x with key := key, val := v }, clock, ?_, ?_, ?_, ?_⟩
    · have hst := L.stays w hkey
      have hks : ((es[j]?).map (·.key)).getD key = key := by rw [hj]; exact h3
      simp [Instr.mapUpdate, run_underlying ht, MapKept.run_getObj_map hb, L.check w _ hkey, h1, hj, h3, hst, MapKept.run_setObj_map _ hb, Result.andThen]
    · rw [hm', ← he]
      apply List.ext_getElem?
      intro i
      rw [List.getElem?_map, Array.getElem?_toList, Array.getElem?_modify, List.getElem?_set, List.getElem?_map, Array.getElem?_toList]
      by_cases hij : j = i
      · subst hij
        simp [hj]
        have := (Array.getElem?_eq_some_iff.1 hj).1
        omega
      · simp [hij]
    · rw [hm', List.map_set]
      have : (m.map (·.1)).set j key = m.map (·.1) := by
        apply List.ext_getElem?
        intro i
        rw [List.getElem?_set]
        by_cases hij : j = i
        · subst hij
          rw [if_pos rfl, List.getElem?_map, hmj]
          have := (List.getElem?_eq_some_iff.1 hmj).1
          simp [this]
        · rw [if_neg hij]
      rw [this]; exact hnd
    · intro p hp
      rw [hm'] at hp
      rcases List.mem_or_eq_of_mem_set hp with hp | rfl
      · exact hkeys p hp
      · exact ⟨l, hkey⟩
theorem LOK.mapUpdateAt {k b : Nat} {t kt et : TypeId} {x y u : Operand} {ty : TypeId} {pos : String} {after_ : Array Edge} {g : Option (Nat × Bool)} {m m' : List (Value × Value)} {e : TypeId} {cs : List CV} {key v : Value} {l : Lit} {lk lv : LV}
    (hx : σ.ev x = some (.sv (.one (.val (.map (some b)))))) (hy : σ.ev y = some lk) (hlk : ∀ (S : Nat → Option (Option Box)) (ι : Nat → Nat × Nat) (w : Value), lk.rel S ι w → w = key) (hu : σ.ev u = some lv) (hlv : ∀ (S : Nat → Option (Option Box)) (ι : Nat → Nat × Nat) (w : Value), lv.rel S ι w → w = v) (hk : σ.stat k = some (some ⟨e, cs, .res (atR b (mapR P kt m))⟩)) (hm : mapOf P t = some (kt, et)) (L : KL P kt) (hkey : Go.keyOf P kt key = some l) (hput : Put m key v m') :
    LOK P n ops ⟨none, .mapUpdate t x y u, ty, pos, after_, g⟩ σ ⟨[], [], [(k, some ⟨0, [], .res (atR b (mapR P kt m'))⟩)]⟩ :=
  LOK.act fun σ' ha C ι a w hr => by
    have hk' := (ha.stat k (.inr (by simp))).trans hk
    have hv : a.eval x = .map (some b) := hr.ev ((ha.ev (x := x) (by simp [Op.operands])).trans hx)
    have hkv : a.eval y = key := hlk _ _ _ (hr.ev ((ha.ev (x := y) (by simp [Op.operands])).trans hy))
    have huv : a.eval u = v := hlv _ _ _ (hr.ev ((ha.ev (x := u) (by simp [Op.operands])).trans hu))
    obtain ⟨H, ⟨hkb, es, clock, hHe, he, hnd, hkeys⟩, hH, _, hstep⟩ := hr.resStep hk'
    have hb := hH (ι k).1 (.map es clock) (by rw [hHe]; exact withBlock_at _ _ _)
    have hset := fun (o' : Obj) => MapKept.heap_set (o' := o') hb
    obtain ⟨es', clock', hrun, he', hnd', hkeys'⟩ := run_update_at hm L hkey hput hb he hnd hkeys
    rw [hkb] at hrun
    rw [hkb] at hset
    refine ⟨{ w with heap := w.heap.setIfInBounds b (.map es' clock') }, ι, by simp only [execOp, hv, hkv, huv, Sem.run_bind, hrun, Result.andThen_ok, Sem.run_pure], ?_⟩
    refine hstep _ (withBlock (fun _ => none) (ι k).1 (.map es' clock')) _ (fun c hb2 _ => ?_) (fun c o ho => ?_) (fun c h => ?_) (by rw [withBlock_at]; simp) ⟨hkb, es', clock', rfl, he', hnd', hkeys'⟩ (by simp) rfl rfl rfl
    · refine (hset _).2 c fun e => ?_
      rw [hHe, e, hkb, withBlock_at] at hb2
      cases hb2
    · unfold withBlock at ho
      split at ho
      · rename_i e; cases ho; rw [hkb] at e; subst e
        exact ⟨(hset _).1, trivial⟩
      · cases ho
    · rw [hHe]
      unfold withBlock at h ⊢
      split
      · simp
      · rename_i hne; rw [if_neg hne] at h; exact h
theorem K.mapUpdateAt {k b : Nat} {t kt et : TypeId} {x y u : Operand} {ty : TypeId} {pos : String} {after_ : Array Edge} {g : Option (Nat × Bool)} {m : List (Value × Value)} (m' : List (Value × Value)) {e : TypeId} {cs : List CV} {key v : Value} {l : Lit} {lk lv : LV}
    (hx : (⟨s, bx, X⟩ : St).ev x = some (.sv (.one (.val (.map (some b)))))) (hy : (⟨s, bx, X⟩ : St).ev y = some lk) (hlk : ∀ (S : Nat → Option (Option Box)) (ι : Nat → Nat × Nat) (w : Value), lk.rel S ι w → w = key) (hu : (⟨s, bx, X⟩ : St).ev u = some lv) (hlv : ∀ (S : Nat → Option (Option Box)) (ι : Nat → Nat × Nat) (w : Value), lv.rel S ι w → w = v) (hk : (⟨s, bx, X⟩ : St).stat k = some (some ⟨e, cs, .res (atR b (mapR P kt m))⟩)) (hm : mapOf P t = some (kt, et)) (L : KL P kt) (hkey : Go.keyOf P kt key = some l) (hput : Put m key v m') (hw : Want ops s g)
    (kont : RunK P n ops os ⟨s, (k, some ⟨0, [], .res (atR b (mapR P kt m'))⟩) :: bx, X⟩ (⟨[], [], [(k, some ⟨0, [], .res (atR b (mapR P kt m'))⟩)]⟩ :: acc) K) :
    RunK P n ops (⟨none, .mapUpdate t x y u, ty, pos, after_, g⟩ :: os) ⟨s, bx, X⟩ acc K := RunK.g3 (LOK.mapUpdateAt hx hy hlk hu hlv hk hm L hkey hput) hw kont
theorem agg_key {us : List Value} (S : Nat → Option (Option Box)) (ι : Nat → Nat × Nat) (w : Value) (h : LV.rel S ι (.sv (.agg (us.map .val))) w) : w = .agg us.toArray := by
  obtain ⟨arr, rfl, h⟩ := h
  rw [← rel_vals h]
theorem one_key {u : Value} (S : Nat → Option (Option Box)) (ι : Nat → Nat × Nat) (w : Value) (h : LV.rel S ι (.sv (.one (.val u))) w) : w = u := h
end
theorem Refs.append {H K : Nat → Option Obj} {ps qs : List Nat} {Rs Ss : List Rsc} (h : Refs H ps Rs) (h2 : Refs K qs Ss) (hd : ∀ x, K x ≠ none → H x = none) : Refs (joinM H K) (ps ++ qs) (Rs ++ Ss) := by
  obtain ⟨l1, F, a1, a2, a3⟩ := h
  obtain ⟨l2, G, b1, b2, b3⟩ := h2
  have far : ∀ i j x, F i x ≠ none → G j x ≠ none → False := fun i j x hi hj => by
    cases hf : F i x with
    | none => exact hi hf
    | some o =>
      cases hg : G j x with
      | none => exact hj hg
      | some o' => have := hd x (by rw [b1 j x o' hg]; simp); rw [a1 i x o hf] at this; cases this
  refine ⟨by rw [List.length_append, List.length_append, l1, l2], fun i => if i < Rs.length then F i else G (i - Rs.length), fun i x o hx => ?_, fun i j x hi hj => ?_, fun i c S hS hc => ?_⟩
  · replace hx : (if i < Rs.length then F i else G (i - Rs.length)) x = some o := hx
    split at hx
    · have h4 := a1 i x o hx
      cases hk : K x with
      | none => rw [joinM_out hk]; exact h4
      | some o' => have := hd x (by rw [hk]; simp); rw [h4] at this; cases this
    · exact joinM_in (b1 _ x o hx)
  · replace hi : (if i < Rs.length then F i else G (i - Rs.length)) x ≠ none := hi
    replace hj : (if j < Rs.length then F j else G (j - Rs.length)) x ≠ none := hj
    split at hi
    · split at hj
      · exact a2 i j x hi hj
      · exact (far _ _ x hi hj).elim
    · split at hj
      · exact (far _ _ x hj hi).elim
      · have := b2 _ _ x hi hj
        omega
  · show (∃ m, S.holds (c, m) (if i < Rs.length then F i else G (i - Rs.length))) ∧ (if i < Rs.length then F i else G (i - Rs.length)) c ≠ none
    by_cases e : i < Rs.length
    · rw [if_pos e]
      rw [List.getElem?_append_left e] at hS
      rw [List.getElem?_append_left (by omega)] at hc
      exact a3 i c S hS hc
    · rw [if_neg e]
      rw [List.getElem?_append_right (by omega)] at hS
      rw [List.getElem?_append_right (by omega)] at hc
      rw [l1] at hc
      exact b3 _ c S hS hc
theorem Refs.more {H K : Nat → Option Obj} {ps : List Nat} {Rs : List Rsc} (h : Refs H ps Rs) (hd : ∀ x, K x ≠ none → H x = none) : Refs (joinM H K) ps Rs := by
  have := h.append (Refs.nil K) hd
  rwa [List.append_nil, List.append_nil] at this
section
variable {n : Nat} {C : Ctx} {s : List (Nat × LV)} {bx : List (Nat × Option Box)} {X : Nat → Option Obj} {k : Nat}
theorem Rel.dead {ι : Nat → Nat × Nat} {a : Act} {w : World} (hk : look k bx = none) (hr : Rel n C ι ⟨s, bx, X⟩ a w) : Rel n C ι ⟨s, (k, none) :: bx, X⟩ a w := by
  have live : ∀ i b, (⟨s, (k, none) :: bx, X⟩ : St).stat i = some (some b) → (⟨s, bx, X⟩ : St).stat i = some (some b) := fun i b hi => by
    rw [stat_cons] at hi
    by_cases e : i = k
    · rw [if_pos e] at hi; cases hi
    · rw [if_neg e] at hi; exact hi
  have hlater : Later (⟨s, bx, X⟩ : St).stat (⟨s, (k, none) :: bx, X⟩ : St).stat ι ι := fun i hi => by
    refine ⟨?_, fun b hb => ⟨rfl, b, live i b hb⟩⟩
    rw [stat_cons]
    by_cases e : i = k
    · rw [if_pos e]; simp
    · rw [if_neg e]; exact hi
  exact {
    defers := hr.defers, size := hr.size
    slots := fun d lv hd => by
      obtain ⟨v, hv, hvr⟩ := hr.slots d lv hd
      exact ⟨v, hv, LV.rel_later hlater hvr⟩
    boxes := fun i b hi hbk => by
      obtain ⟨arr, fr, g1, g2, g3, g4⟩ := hr.boxes i b (live i b hi) hbk
      exact ⟨arr, fr, g1, g2, g3, Box.rel_later hlater g4⟩
    own := fun i b hi => hr.own i b (live i b hi)
    inj := fun i j bi bj hi hj he => hr.inj i j bi bj (live i bi hi) (live j bj hj) he
    keep := fun i b hi hge => hr.keep i b (live i b hi) hge
    ext := hr.ext
    res := by
      obtain ⟨F, hG⟩ := hr.res
      refine ⟨F, fun i e cs R hi => hG.holds i e cs R (live i _ hi), fun i b o ho => ?_, hG.apart⟩
      obtain ⟨⟨e, cs, R, h1⟩, h2, h3, h4, h5, h6⟩ := hG.mem i b o ho
      refine ⟨⟨e, cs, R, ?_⟩, h2, h3, h4, h5, fun j bj hj ej => h6 j bj (live j bj hj) ej⟩
      rw [stat_cons]
      have h1 : look i bx = some (some ⟨e, cs, .res R⟩) := h1
      rw [if_neg (fun e' => by rw [e', hk] at h1; cases h1)]
      exact h1
    frame := hr.frame, big := hr.big, os := hr.os, tape := hr.tape, output := hr.output }
theorem Leads.dead {Mid : St → Prop} (hk : look k bx = none) (h : Leads n C Mid ⟨s, (k, none) :: bx, X⟩) : Leads n C Mid ⟨s, bx, X⟩ := ⟨fun ι a w hr => h.out ι a w (hr.dead hk)⟩
end
def exitQ (n : Nat) (C : Ctx) (Mid : St → Prop) : Exit → St → Prop := fun e σ => match e with
  | .normal | .ret => Leads n C Mid σ
  | _ => False
section
variable {P : Program} {n : Nat} {C : Ctx} {c : Code} {Q : Exit → St → Prop} {s : List (Nat × LV)} {bx : List (Nat × Option Box)} {X : Nat → Option Obj}
theorem LWP.exits {Mid : St → Prop} (h : LWP P n C c (exitQ n C Mid) ⟨s, bx, X⟩) (hn : ∀ σ, Mid σ → Q .normal σ) (hr : ∀ σ, Mid σ → Q .ret σ) : LWP P n C c Q ⟨s, bx, X⟩ := by
  refine LWP.ends (h.mono fun e σ hq => ?_)
  cases e <;> first | exact hq.elim | skip
  · exact ⟨fun ι a w hr' => let ⟨ι', σ', h1, h2⟩ := Leads.out hq ι a w hr'; ⟨ι', σ', hn _ h1, h2⟩⟩
  · exact ⟨fun ι a w hr' => let ⟨ι', σ', h1, h2⟩ := Leads.out hq ι a w hr'; ⟨ι', σ', hr _ h1, h2⟩⟩
theorem LWP.toNil (h : LWP P n C c Q ⟨s, bx, joinM X (fun _ => none)⟩) : LWP P n C c Q ⟨s, bx, X⟩ := by
  rw [joinM_nil] at h
  exact h
theorem LWP.ofBody {fn : Func} {c c' : Code} {σ : St} (hb : fn.body = some c') (hc : fn.body = some c) (h : LWP P n C c' Q σ) : LWP P n C c Q σ := by
  rw [hb] at hc
  cases hc
  exact h
end
end Go.Lg
end
section
namespace Go.Lg
open Go Go.RowKit Go.ChangeShapes Go.WideShapes Go.Joins
section
variable {H : Type} {enc : TypeId × Value → H} {P : Program} {w : World}
def Light (P : Program) (t : TypeId) (d : DataW H) : Prop := ∀ n ∈ d.weights P t, n ≤ reachBytes
theorem Light.all {P : Program} {e : TypeId} : ∀ {l : List (DataW H)}, (∀ n ∈ DataW.weightsAll P e l, n ≤ reachBytes) → ∀ d ∈ l, Light P e d
  | x :: t, h, d, hd => by
    simp only [DataW.weightsAll, List.mem_append] at h
    rcases List.mem_cons.1 hd with rfl | hd
    · exact fun n hn => h n (.inl hn)
    · exact Light.all (fun n hn => h n (.inr hn)) d hd
  | [], _, d, hd => by cases hd
theorem Light.slice {P : Program} {t e : TypeId} {elems spare : List (DataW H)} (ht : P.underlying t = some (.slice e)) (h : Light P t (.slice elems spare)) : (elems.length + spare.length) * P.bytesOf e ≤ reachBytes ∧ ∀ d ∈ elems, Light P e d := by
  unfold Light at h
  simp only [DataW.weights, ht, List.mem_cons, List.mem_append] at h
  exact ⟨h _ (.inl rfl), Light.all fun n hn => h n (.inr (.inl hn))⟩
theorem Light.arg {ts : List TypeId} {ds : List (DataW H)} (h : (DataW.weightsEach P ts ds).all (· ≤ reachBytes) = true) {j : Nat} {t : TypeId} {d : DataW H} (ht : ts[j]? = some t) (hd : ds[j]? = some d) : Light P t d := fun n hn => by
  have := List.all_eq_true.1 h n (DataW.weights_mem_each ht hd n hn)
  simpa using this
end
end Go.Lg
end
section
namespace Go.Proofs.Ytjifibloagkeeaa
open Go Go.Lg Go.Lg.Fld Go.Lg.Sg
set_option maxRecDepth 100000
def fieldsOf (P : Program) (k : TypeId) : Option (List (TypeId × Nat)) := match P.underlying k with | some (.struct fs) => if fs.all (·.name != "_") = true then some (fs.toList.map fun f => (f.type, f.offset)) else none | _ => none
theorem key_struct {P : Program} {k t1 t2 t3 : TypeId} {a b : Int} {c : Bool} (hf : fieldsOf P k = some [(t1, 0), (t2, 1), (t3, 2)]) (hkt : P.keyType k = true) (hform : Value.formed P k (.agg #[.int .i64 a, .int .i64 b, .bool c]) = true) (hsz : Nat.ble 1 P.types.size = true) (hc : P.cellsOf k = 3)
    (c1 : P.cellsOf t1 = 1) (c2 : P.cellsOf t2 = 1) (c3 : P.cellsOf t3 = 1) (h1 : P.underlying t1 = some (.int .i64)) (h2 : P.underlying t2 = some (.int .i64)) (h3 : P.underlying t3 = some .bool) (ha : (Lit.int .i64 a).wf = true) (hb : (Lit.int .i64 b).wf = true) :
    ∃ l, Go.keyOf P k (.agg #[.int .i64 a, .int .i64 b, .bool c]) = some l := by
  unfold fieldsOf at hf
  split at hf
  · rename_i fs hu
    split at hf
    · rename_i hbl
      simp only [Option.some.injEq] at hf
      obtain ⟨D, hD⟩ : ∃ D, P.types.size + 1 = D + 2 := ⟨P.types.size - 1, by have := Nat.le_of_ble_eq_true hsz; omega⟩
      have hl : P.keyLits (P.types.size + 1) k [.int .i64 a, .int .i64 b, .bool c] = some [.int .i64 a, .int .i64 b, .bool c] := by
        rw [hD]
        unfold Program.keyLits
        simp only [hu]
        rw [if_pos ⟨by rw [hc]; rfl, hbl⟩]
        have hm : (fs.toList.mapM fun f => P.keyLits (D + 1) f.type (([Value.int .i64 a, .int .i64 b, .bool c].drop f.offset).take (P.cellsOf f.type))) = ((fs.toList.map fun f => (f.type, f.offset)).mapM fun g => P.keyLits (D + 1) g.1 (([Value.int .i64 a, .int .i64 b, .bool c].drop g.2).take (P.cellsOf g.1))) := by
          rw [List.mapM_map]; rfl
        rw [hm, hf]
        have e1 : P.keyLits (D + 1) t1 [.int .i64 a] = some [.int .i64 a] := by unfold Program.keyLits; simp only [h1]; rw [if_pos ⟨trivial, ha⟩]
        have e2 : P.keyLits (D + 1) t2 [.int .i64 b] = some [.int .i64 b] := by unfold Program.keyLits; simp only [h2]; rw [if_pos ⟨trivial, hb⟩]
        have e3 : P.keyLits (D + 1) t3 [.bool c] = some [.bool c] := by unfold Program.keyLits; simp only [h3]
        simp only [List.mapM_cons, List.mapM_nil, c1, c2, c3, List.drop_zero, List.drop_succ_cons, List.take_succ_cons, List.take_zero, e1, e2, e3]
        rfl
      unfold Go.keyOf
      simp only [hu]
      rw [hkt, hform]
      exact ⟨_, by rw [Bool.and_self, if_pos rfl, show (Value.agg #[.int .i64 a, .int .i64 b, .bool c]).cells.toList = [.int .i64 a, .int .i64 b, .bool c] from rfl, hl]; rfl⟩
    · cases hf
  · cases hf
def wyK (x : Wy) : Value := .agg #[.int .i64 x.1, .int .i64 x.2.1, .bool x.2.2]
theorem wyK_inj {x y : Wy} (h : wyK x = wyK y) : x = y := by
  unfold wyK at h
  simp only [Value.agg.injEq, Array.mk.injEq, List.cons.injEq, Value.int.injEq, true_and, Value.bool.injEq, and_true] at h
  obtain ⟨h1, h2, h3⟩ := h
  exact Prod.ext h1 (Prod.ext h2 h3)
abbrev In6 (n : Int) : Prop := -9223372036854775808 ≤ n ∧ n < 9223372036854775808
theorem wf_i64 {n : Int} (h : In6 n) : (Lit.int .i64 n).wf = true := by
  obtain ⟨h1, h2⟩ := h
  have hmin : IntKind.i64.min = -9223372036854775808 := by decide
  have hmax : IntKind.i64.max = 9223372036854775807 := by decide
  simp only [Lit.wf, Bool.and_eq_true, decide_eq_true_eq, hmin, hmax]
  omega
abbrev WK : TypeId := 67
theorem wyK_key {x : Wy} (h1 : In6 x.1) (h2 : In6 x.2.1) : ∃ l, Go.keyOf Try.prog WK (wyK x) = some l :=
  key_struct (t1 := 3) (t2 := 3) (t3 := 4) (by kernel_rfl) (by kernel_rfl) (by rfl) (by kernel_rfl) (by kernel_rfl) (by kernel_rfl) (by kernel_rfl) (by kernel_rfl) (by kernel_rfl) (by kernel_rfl) (by kernel_rfl) (wf_i64 h1) (wf_i64 h2)
theorem wyL : KL Try.prog WK := .of (deep_law (m := 3) (by decide) (by kernel_rfl) (by kernel_rfl) (by kernel_rfl))
structure WaysOk (g : Gr) (m : List (Value × Value)) : Prop where
  keys : m.map (·.1) = g.w.map wyK
  at_ : ∀ x ∈ g.w, ∃ (k n s : Nat), x.1 = (k : Nat) ∧ g.l[k]? = some s ∧ hasC g.sc.cs x.2.1 = true ∧ hasB s x.2.1 ≠ x.2.2 ∧ g.l[n]? = some (nextS s x.2.1 x.2.2) ∧ (wyK x, Value.int .i64 (n : Nat)) ∈ m ∧ knowsW g.w ((n : Nat), x.2.1, !x.2.2) = true
theorem knows_mem {w : List Wy} {x : Wy} : knowsW w x = true ↔ x ∈ w := by
  unfold knowsW
  rw [List.any_eq_true]
  exact ⟨fun ⟨y, h1, h2⟩ => by rw [← beq_iff_eq.1 h2]; exact h1, fun h => ⟨x, h, beq_self_eq_true x⟩⟩
theorem WaysOk.none {g : Gr} (h : g.w = []) : WaysOk g [] := ⟨by rw [h]; rfl, fun x hx => by rw [h] at hx; cases hx⟩
section
variable {g : Gr} {m : List (Value × Value)}
theorem WaysOk.key_mem (h : WaysOk g m) {x : Wy} : (∃ p ∈ m, p.1 = wyK x) ↔ knowsW g.w x = true := by
  rw [knows_mem]
  constructor
  · rintro ⟨p, hp, e⟩
    have : wyK x ∈ m.map (·.1) := by rw [← e]; exact List.mem_map_of_mem hp
    rw [h.keys] at this
    obtain ⟨y, hy, e2⟩ := List.mem_map.1 this
    rw [← wyK_inj e2]; exact hy
  · intro hx
    have : wyK x ∈ m.map (·.1) := by rw [h.keys]; exact List.mem_map_of_mem hx
    obtain ⟨p, hp, e⟩ := List.mem_map.1 this
    exact ⟨p, hp, e⟩
theorem WaysOk.len (h : WaysOk g m) : m.length = g.w.length := by have := congrArg List.length h.keys; rwa [List.length_map, List.length_map] at this
theorem WaysOk.no (h : WaysOk g m) {x : Wy} (hx : knowsW g.w x = false) : ∀ p ∈ m, p.1 ≠ wyK x := fun p hp e => by
  have := h.key_mem.1 ⟨p, hp, e⟩
  rw [hx] at this; cases this
theorem WaysOk.known (h : WaysOk g m) (hk : GrOk g) {i c : Int} {a : Bool} (hx : knowsW g.w (i, c, a) = true) : (wyK (i, c, a), Value.int .i64 (stepN g i c a : Nat)) ∈ m ∧ stepE g i c a = 0 ∧ stepG g i c a = g := by
  obtain ⟨k, n, s, h1, h2, h3, h4, h5, h6, h7⟩ := h.at_ _ (knows_mem.1 hx)
  have hm := make_some (findG_at hk.nd h5)
  have hS : Stepped g i c a k s := ⟨h1, h2, h3, h4, hm.1⟩
  obtain ⟨e1, e2⟩ := hS.step
  rw [hm.2.2] at e1 e2
  rw [hm.2.1] at e1
  refine ⟨by rw [e2]; exact h6, hS.zero, ?_⟩
  rw [e1, add_same hx, add_same h7]
theorem WaysOk.more (h : WaysOk g m) (hk : GrOk g) {i c : Int} {a : Bool} {k s : Nat} (hS : Stepped g i c a k s) (hx : knowsW g.w (i, c, a) = false) :
    knowsW g.w ((stepN g i c a : Nat), c, !a) = false ∧ WaysOk (stepG g i c a) (m ++ [(wyK (i, c, a), Value.int .i64 (stepN g i c a : Nat))] ++ [(wyK ((stepN g i c a : Nat), c, !a), Value.int .i64 (k : Nat))]) ∧ (stepG g i c a).w = g.w ++ [(i, c, a)] ++ [(((stepN g i c a : Nat) : Int), c, !a)] := by
  have hj := okJ_of hk.sc hS.has
  obtain ⟨b1, b2⟩ := next_back hj hS.ne
  obtain ⟨e1, e2⟩ := hS.step
  have hat := makeN_at hS.make
  have hok := hk.step i c a
  obtain ⟨t, ht, _, _⟩ := makeL_pre (g := g) (s := nextS s c a)
  rw [← e2] at hat e1
  generalize hn : stepN g i c a = n at *
  have hb : knowsW g.w ((n : Nat), c, !a) = false := by
    cases hb : knowsW g.w ((n : Nat), c, !a) with
    | false => rfl
    | true =>
      obtain ⟨k', n', s', h1, h2, h3, h4, h5, h6, h7⟩ := h.at_ _ (knows_mem.1 hb)
      simp only at h1 h3 h4 h5 h7
      have hkn : k' = n := by omega
      subst hkn
      rw [ht, List.getElem?_append_left (List.getElem?_eq_some_iff.1 h2).1, h2] at hat
      simp only [Option.some.injEq] at hat
      subst hat
      rw [b1] at h5
      have : n' = k := by
        have := findG_at hk.nd h5
        rw [findG_at hk.nd hS.at_] at this
        simpa using this.symm
      subst this
      rw [Bool.not_not, ← hS.i, hx] at h7
      cases h7
  have hne : ¬((i, c, a) : Wy) = (((n : Nat) : Int), c, !a) := fun e => by
    have : a = !a := congrArg (fun x : Wy => x.2.2) e
    cases a <;> cases this
  have hw : (stepG g i c a).w = g.w ++ [(i, c, a)] ++ [(((n : Nat) : Int), c, !a)] := by
    rw [e1]
    show addW (addW g.w (i, c, a)) ((n : Nat), c, !a) = _
    have : addW g.w (i, c, a) = g.w ++ [(i, c, a)] := by unfold addW; rw [if_neg (by rw [hx]; decide)]
    rw [this]
    unfold addW
    rw [if_neg]
    intro hh
    rw [knows_mem, List.mem_append] at hh
    rcases hh with hh | hh
    · rw [← knows_mem, hb] at hh; cases hh
    · rw [List.mem_singleton] at hh; exact hne hh.symm
  have hl : (stepG g i c a).l = makeL g (nextS s c a) := by rw [e1]
  have hsc : (stepG g i c a).sc = g.sc := by rw [e1]
  have hold : ∀ {j v : Nat}, g.l[j]? = some v → (stepG g i c a).l[j]? = some v := fun {j v} hj => by rw [hl, ht, List.getElem?_append_left (List.getElem?_eq_some_iff.1 hj).1]; exact hj
  refine ⟨hb, ⟨by rw [List.map_append, List.map_append, h.keys, hw, List.map_append, List.map_append]; rfl, fun x hxm => ?_⟩, hw⟩
  rw [hw, List.mem_append, List.mem_append, List.mem_singleton, List.mem_singleton] at hxm
  have hkn1 : knowsW (stepG g i c a).w (i, c, a) = true := by rw [hw, knows_mem]; simp
  have hkn2 : knowsW (stepG g i c a).w ((n : Nat), c, !a) = true := by rw [hw, knows_mem]; simp
  rcases hxm with (hxm | rfl) | rfl
  · obtain ⟨k', n', s', h1, h2, h3, h4, h5, h6, h7⟩ := h.at_ _ hxm
    refine ⟨k', n', s', h1, hold h2, by rw [hsc]; exact h3, h4, hold h5, by simp [h6], ?_⟩
    rw [hw, knows_mem]
    rw [knows_mem] at h7
    simp [h7]
  · exact ⟨k, n, s, hS.i, hold hS.at_, by rw [hsc]; exact hS.has, hS.ne, by rw [hl]; exact hat, by simp, hkn2⟩
  · refine ⟨n, k, nextS s c a, rfl, by rw [hl]; exact hat, by rw [hsc]; exact hS.has, ?_, ?_, by simp, ?_⟩
    · simp only; rw [b2]; cases a <;> decide
    · simp only; rw [b1]; exact hold hS.at_
    · simp only; rw [Bool.not_not, ← hS.i]; exact hkn1
theorem WaysOk.same_l (h : WaysOk g m) {g' : Gr} (hl : ∃ t, g'.l = g.l ++ t) (hs : g'.sc = g.sc) (hw : g'.w = g.w) : WaysOk g' m := by
  obtain ⟨t, ht⟩ := hl
  refine ⟨by rw [hw]; exact h.keys, fun x hx => ?_⟩
  rw [hw] at hx
  obtain ⟨k', n', s', h1, h2, h3, h4, h5, h6, h7⟩ := h.at_ _ hx
  exact ⟨k', n', s', h1, by rw [ht, List.getElem?_append_left (List.getElem?_eq_some_iff.1 h2).1]; exact h2, by rw [hs]; exact h3, h4, by rw [ht, List.getElem?_append_left (List.getElem?_eq_some_iff.1 h5).1]; exact h5, h6, by rw [hw]; exact h7⟩
end
abbrev tbl (g : Gr) (s : Nat) : Tb := ⟨g.sc, s, g.rows, 0, []⟩
def tabsG (g : Gr) : List Rsc := g.l.map fun s => tbR (tbl g s)
abbrev PT : TypeId := 38
def TArr (H : Nat → Option Obj) (v : Value) (ps : List Nat) : Prop := (v = nilSlc ∧ ps = []) ∨ ∃ db, LeadsTo H db v PT 1 (pvs ps)
theorem TArr.slice {H : Nat → Option Obj} {v : Value} {ps : List Nat} (h : TArr H v ps) : ∃ ad cap, v = .slice ad ps.length cap := by
  rcases h with ⟨rfl, rfl⟩ | ⟨db, len, cap, arr, fr, rfl, h2, _⟩
  · exact ⟨none, 0, rfl⟩
  · have : len = ps.length := by rw [pvs_len] at h2; omega
    rw [this]; exact ⟨_, cap, rfl⟩
theorem TArr.ptrs {H : Nat → Option Obj} {v : Value} {ps : List Nat} (h : TArr H v ps) : PtrsIn H v ps := by
  rcases h with ⟨rfl, rfl⟩ | ⟨db, h⟩
  · exact ⟨none, 0, rfl, fun i b hb => by simp at hb⟩
  · exact ptrs_leads h
abbrev FewC (cs : List Cp) : Prop := cs.length ≤ 30 ∧ ∀ c ∈ cs, c.fs.length ≤ 12
structure GraIn (g : Gr) (Hs Hm Hr Ha : Nat → Option Obj) (vC vT : Value) (mb : Nat) (ps : List Nat) (m : List (Value × Value)) : Prop where
  sc : ∃ (cb cc : Nat), vC = .slice (some ⟨cb, 0, none⟩) g.sc.cs.length cc ∧ CompsIn Hs (some ⟨cb, 0, none⟩) g.sc.cs
  map : ∃ mn, (mapR Try.prog WK m).holds (mb, mn) Hm
  refs : Refs Hr ps (tabsG g)
  arr : TArr Ha vT ps
  ways : WaysOk g m
  names : NamesIn g.sc.cs
  few : FewC g.sc.cs
abbrev grV (g : Gr) (vC vT : Value) (mb : Nat) : List Value := [.int .i64 g.sc.ver, vC, .int .i64 (g.archs : Nat), .int .i64 (g.rows : Nat), vT, .map (some mb)]
abbrev ApM (A B : Nat → Option Obj) : Prop := ∀ b, B b ≠ none → A b = none
structure GrHS (H : Nat → Option Obj) (g : Gr) (Hs Hm Hr Ha : Nat → Option Obj) (vC vT : Value) (mb : Nat) (ps : List Nat) (m : List (Value × Value)) : Prop where
  mem : H = joinM (joinM (joinM Hs Hm) Hr) Ha
  a1 : ApM Hs Hm
  a2 : ApM (joinM Hs Hm) Hr
  a3 : ApM (joinM (joinM Hs Hm) Hr) Ha
  to : GraIn g Hs Hm Hr Ha vC vT mb ps m
def GrH (H : Nat → Option Obj) (vals : List Value) (g : Gr) : Prop := ∃ Hs Hm Hr Ha vC vT mb ps m, vals = grV g vC vT mb ∧ GrHS H g Hs Hm Hr Ha vC vT mb ps m
def gR (g : Gr) : Rsc := ⟨fun ρ H => ρ.2 = 6 ∧ ∃ (fr : Nat × Nat) (vals : List Value), H ρ.1 = some (.cells vals.toArray 60 fr) ∧ GrH (cutM H ρ.1) vals g⟩
abbrev gB (k : Nat) (g : Gr) : Nat × Option Box := (k, some ⟨0, [], .res (gR g)⟩)
abbrev gO (k : Nat) (vals : List Value) : Nat × Option Box := (k, some ⟨60, vals.map .val, false⟩)
abbrev LnilG : LV := .sv (.one (.val (.pointer none)))
structure GrX (Y : Nat → Option Obj) (g : Gr) (vC vT : Value) (mb : Nat) (ps : List Nat) (m : List (Value × Value)) : Prop where
  sc : ∃ (cb cc : Nat), vC = .slice (some ⟨cb, 0, none⟩) g.sc.cs.length cc ∧ CompsIn Y (some ⟨cb, 0, none⟩) g.sc.cs
  map : MapIn Try.prog WK Y mb m
  len : ps.length = g.l.length
  ptrs : PtrsIn Y vT ps
  tabs : ∀ (i s : Nat), g.l[i]? = some s → ∃ b, ps[i]? = some b ∧ TbX Y ⟨b, 0, none⟩ (tbl g s)
  ways : WaysOk g m
  names : NamesIn g.sc.cs
  few : FewC g.sc.cs
def GrIn (Y : Nat → Option Obj) (vals : List Value) (g : Gr) : Prop := ∃ vC vT mb ps m, vals = grV g vC vT mb ∧ GrX Y g vC vT mb ps m
theorem GrX.mono {Y Z : Nat → Option Obj} {g : Gr} {vC vT : Value} {mb : Nat} {ps : List Nat} {m : List (Value × Value)} (hYZ : ∀ b o, Y b = some o → Z b = some o) (h : GrX Y g vC vT mb ps m) : GrX Z g vC vT mb ps m := by
  obtain ⟨cb, cc, h1, h2⟩ := h.sc
  exact ⟨⟨cb, cc, h1, h2.mono hYZ⟩, h.map.mono hYZ, h.len, h.ptrs.mono hYZ, fun i s hs => let ⟨b, g1, g2⟩ := h.tabs i s hs; ⟨b, g1, g2.mono hYZ⟩, h.ways, h.names, h.few⟩
theorem GrIn.mono {Y Z : Nat → Option Obj} {vals : List Value} {g : Gr} (hYZ : ∀ b o, Y b = some o → Z b = some o) (h : GrIn Y vals g) : GrIn Z vals g := by
  obtain ⟨vC, vT, mb, ps, m, h1, h2⟩ := h
  exact ⟨vC, vT, mb, ps, m, h1, h2.mono hYZ⟩
theorem tblOk_of {g : Gr} (hk : GrOk g) {s : Nat} (h : s ∈ g.l) : goodT g.sc s (g.rows : Nat) = true ∧ TbOk (tbl g s) := by
  obtain ⟨h1, h2⟩ := hk.can s h
  have hg : goodT g.sc s (g.rows : Nat) = true := by
    unfold canG at h1
    rw [Bool.and_eq_true] at h1
    have := hk.rows
    unfold goodT
    rw [decide_eq_true hk.sc, h1.1, h1.2, decide_eq_true (by omega), decide_eq_true (by omega)]; rfl
  exact ⟨hg, TbOk.new h2 hg⟩
theorem tabs_at {g : Gr} {i s : Nat} (h : g.l[i]? = some s) : (tabsG g)[i]? = some (tbR (tbl g s)) := by unfold tabsG; rw [List.getElem?_map, h]; rfl
theorem tabs_len (g : Gr) : (tabsG g).length = g.l.length := List.length_map _
theorem refs_tabs {H Y : Nat → Option Obj} {g : Gr} {ps : List Nat} (hk : GrOk g) (h : Refs H ps (tabsG g)) (hX : ∀ x o, H x = some o → Y x = some o) : ∀ (i s : Nat), g.l[i]? = some s → ∃ b, ps[i]? = some b ∧ TbX Y ⟨b, 0, none⟩ (tbl g s) := fun i s hs => by
  obtain ⟨b, m, Hc, h1, h2, _, h4, _⟩ := h.take (tabs_at hs)
  exact ⟨b, h1, tbR_x (tblOk_of hk (List.mem_of_getElem? hs)).2 h2 fun x o hx => hX _ _ (h4 x o hx)⟩
theorem GraIn.x {g : Gr} {Hs Hm Hr Ha Y : Nat → Option Obj} {vC vT : Value} {mb : Nat} {ps : List Nat} {m : List (Value × Value)} (hk : GrOk g) (h : GraIn g Hs Hm Hr Ha vC vT mb ps m)
    (h1 : ∀ b o, Hs b = some o → Y b = some o) (h2 : ∀ b o, Hm b = some o → Y b = some o) (h3 : ∀ b o, Hr b = some o → Y b = some o) (h4 : ∀ b o, Ha b = some o → Y b = some o) : GrX Y g vC vT mb ps m := by
  obtain ⟨cb, cc, e1, e2⟩ := h.sc
  obtain ⟨mn, hm⟩ := h.map
  exact ⟨⟨cb, cc, e1, e2.mono h1⟩, (MapIn.of hm).1.mono h2, by rw [h.refs.len, tabs_len], h.arr.ptrs.mono h4, refs_tabs hk h.refs h3, h.ways, h.names, h.few⟩
section
variable {P : Program} {n : Nat} {C : Ctx} {c : Code} {Q : Exit → St → Prop} {X H : Nat → Option Obj} {s : List (Nat × LV)} {bx : List (Nat × Option Box)} {k : Nat} {g : Gr} {vals : List Value}
theorem own4 {A B D E : Nat → Option Obj} (h : OwnedM C X H) (e : H = joinM (joinM (joinM A B) D) E) (a1 : ApM A B) (a2 : ApM (joinM A B) D) (a3 : ApM (joinM (joinM A B) D) E) :
    OwnedM C X A ∧ OwnedM C (joinM X A) B ∧ OwnedM C (joinM (joinM X A) B) D ∧ OwnedM C (joinM (joinM (joinM X A) B) D) E ∧ joinM X H = joinM (joinM (joinM (joinM X A) B) D) E := by
  obtain ⟨h1, h2⟩ := own_join h e a3
  obtain ⟨h3, h4⟩ := own_join h1 rfl a2
  obtain ⟨h5, h6⟩ := own_join h3 rfl a1
  refine ⟨h5, h6, by rw [joinM_join]; exact h4, by rw [joinM_join X A B, joinM_join]; exact h2, ?_⟩
  rw [e, ← joinM_join, ← joinM_join, ← joinM_join]
theorem ap_own {A B : Nat → Option Obj} (h : OwnedM C (joinM X A) B) : ApM A B := fun _ hb => own_far h hb
theorem ap4 {A B D E : Nat → Option Obj} (h2 : OwnedM C (joinM X A) B) (h3 : OwnedM C (joinM (joinM X A) B) D) (h4 : OwnedM C (joinM (joinM (joinM X A) B) D) E) : ApM A B ∧ ApM (joinM A B) D ∧ ApM (joinM (joinM A B) D) E :=
  ⟨ap_own h2, ap_own (by rw [← joinM_join]; exact h3), ap_own (by rw [← joinM_join, ← joinM_join]; exact h4)⟩
theorem own4_join {A B D E : Nat → Option Obj} (h1 : OwnedM C X A) (h2 : OwnedM C (joinM X A) B) (h3 : OwnedM C (joinM (joinM X A) B) D) (h4 : OwnedM C (joinM (joinM (joinM X A) B) D) E) : OwnedM C X (joinM (joinM (joinM A B) D) E) :=
  ((h1.join h2).join (by rw [← joinM_join]; exact h3)).join (by rw [← joinM_join, ← joinM_join]; exact h4)
theorem g_in (hO : OwnedM C X H) (h : GrH H vals g) (hk : GrOk g := by assumption) : GrIn (joinM X H) vals g := by
  obtain ⟨Hs, Hm, Hr, Ha, vC, vT, mb, ps, m, h1, h2⟩ := h
  obtain ⟨o1, o2, o3, o4, e⟩ := own4 hO h2.mem h2.a1 h2.a2 h2.a3
  refine ⟨vC, vT, mb, ps, m, h1, h2.to.x hk ?_ ?_ ?_ ?_⟩
  · rw [e]; exact fun b o hb => joinM_has o4 (joinM_has o3 (joinM_has o2 (joinM_in hb)))
  · rw [e]; exact fun b o hb => joinM_has o4 (joinM_has o3 (joinM_in hb))
  · rw [e]; exact fun b o hb => joinM_has o4 (joinM_in hb)
  · rw [e]; exact fun b o hb => joinM_in hb
theorem g_len {vals : List Value} {H : Nat → Option Obj} (h : GrH H vals g) : vals.length = 6 := by
  obtain ⟨_, _, _, _, _, _, _, _, _, rfl, _⟩ := h
  rfl
theorem g_open (h : ∀ (H : Nat → Option Obj) (vals : List Value), OwnedM C X H → GrH H vals g → LWP P n C c Q ⟨s, gO k vals :: bx, joinM X H⟩) : LWP P n C c Q ⟨s, gB k g :: bx, X⟩ := by
  refine LWP.openRes (fun ρ H h => ?_) fun ρ H vals el fr hR hv hO => ?_
  · obtain ⟨h1, fr, vals, h2, h3⟩ := h
    exact ⟨_, _, fr, h2, by rw [h1]; exact g_len h3⟩
  · obtain ⟨h1, fr', vs, h2, h3⟩ := hR
    rw [hv] at h2
    simp only [Option.some.injEq, Obj.cells.injEq] at h2
    obtain ⟨rfl, rfl, rfl⟩ := h2
    exact h _ _ (hO.cut ρ.1) h3
theorem g_holds {H : Nat → Option Obj} (hI : GrH H vals g) (ρ : Nat × Nat) (fr : Nat × Nat) (g1 : H ρ.1 = none) (g3 : ρ.2 = vals.length) : (gR g).holds ρ (withBlock H ρ.1 (.cells vals.toArray 60 fr)) :=
  ⟨by rw [g3]; exact g_len hI, fr, vals, withBlock_at _ _ _, by rw [cut_with g1]; exact hI⟩
theorem g_shut {Mid : St → Prop} (hO : OwnedM C X H) (hI : GrH H vals g) (h : Leads n C Mid ⟨s, gB k g :: bx, X⟩) : Leads n C Mid ⟨s, gO k vals :: bx, joinM X H⟩ :=
  Leads.closeRes (vals := vals) hO (fun ρ fr g1 _ g3 => g_holds hI ρ fr g1 g3) h
theorem g_shutL (hO : OwnedM C X H) (hI : GrH H vals g) (h : LWP P n C c Q ⟨s, gB k g :: bx, X⟩) : LWP P n C c Q ⟨s, gO k vals :: bx, joinM X H⟩ :=
  LWP.closeRes (vals := vals) hO (fun ρ fr g1 _ g3 => g_holds hI ρ fr g1 g3) h
end
end Go.Proofs.Ytjifibloagkeeaa
end
section
namespace Go.Proofs.Ytjifibloagkeeaa
open Go Go.Lg Go.Lg.Fld Go.Lg.Sg
set_option maxRecDepth 100000
def u32V (l : List Nat) : List Value := l.map fun n => .int .u32 (n : Nat)
def U32In (X : Nat → Option Obj) (ad : Option Addr) (l : List Nat) : Prop := Go.Lg.RowsIn X ad 1 (l.map fun n => [Value.int .u32 (n : Nat)])
def wyV (x : Wy) : List Value := [.int .i64 x.1, .int .i64 x.2.1, .bool x.2.2]
def WysIn (X : Nat → Option Obj) (ad : Option Addr) (w : List Wy) : Prop := Go.Lg.RowsIn X ad 3 (w.map wyV)
theorem U32In.mono {X Y : Nat → Option Obj} (hXY : ∀ b o, X b = some o → Y b = some o) {ad : Option Addr} {l : List Nat} (h : U32In X ad l) : U32In Y ad l := Go.Lg.RowsIn.mono h hXY
theorem WysIn.mono {X Y : Nat → Option Obj} (hXY : ∀ b o, X b = some o → Y b = some o) {ad : Option Addr} {l : List Wy} (h : WysIn X ad l) : WysIn Y ad l := Go.Lg.RowsIn.mono h hXY
theorem U32In.nil {X : Nat → Option Obj} {ad : Option Addr} : U32In X ad [] := fun i r h => by simp at h
theorem WysIn.nil {X : Nat → Option Obj} {ad : Option Addr} : WysIn X ad [] := fun i r h => by simp at h
section
variable {P : Program} {n : Nat} {C : Ctx} {c : Code} {Q : Exit → St → Prop} {X : Nat → Option Obj} {s : List (Nat × LV)} {bx : List (Nat × Option Box)} {k : Nat}
end
end Go.Proofs.Ytjifibloagkeeaa
end
section
namespace Go.Proofs.Ytjifibloagkeeaa
open Go Go.Lg Go.Lg.Fld Go.Lg.Sg
set_option maxRecDepth 100000
abbrev gS (k : Nat) (g : Gr) (cC cT cM : CV) : Nat × Option Box := (k, some ⟨60, [.val (.int .i64 g.sc.ver), cC, .val (.int .i64 (g.archs : Nat)), .val (.int .i64 (g.rows : Nat)), cT, cM], false⟩)
abbrev mV (mb : Nat) : CV := .val (.map (some mb))
abbrev vS' (ad : Option Addr) (n cap : Nat) : CV := .val (.slice ad n cap)
theorem hasC_first {cs : List Cp} {id : Int} (h : hasC cs id = true) : ∃ (i : Nat) (c : Cp), cs[i]? = some c ∧ c.id = id ∧ ∀ (j : Nat) (y : Cp), j < i → cs[j]? = some y → (y.id == id) = false := by
  unfold hasC at h
  cases hf : cs.findIdx? (fun c => c.id == id) with
  | none =>
    rw [List.findIdx?_eq_none_iff] at hf
    obtain ⟨x, hx, e⟩ := List.any_eq_true.1 h
    rw [hf x hx] at e; cases e
  | some i =>
    obtain ⟨hi, h1, h2⟩ := List.findIdx?_eq_some_iff_getElem.1 hf
    refine ⟨i, _, List.getElem?_eq_getElem hi, by simpa using h1, fun j y hj hy => ?_⟩
    have := h2 j hj
    rw [List.getElem?_eq_getElem (by omega)] at hy
    simp only [Option.some.injEq] at hy
    rw [← hy]
    simpa using this
theorem hasC_no {cs : List Cp} {id : Int} (h : hasC cs id = false) : ∀ (j : Nat) (y : Cp), cs[j]? = some y → (y.id == id) = false := fun j y hy => by
  unfold hasC at h
  have := List.any_eq_false.1 h y (List.mem_of_getElem? hy)
  simpa using this
variable (X : Nat → Option Obj)
theorem tfind1_spec (s : Nat) (x : Nat) (g : Gr) {tb b : Nat} {arr : Array Value} {el : TypeId} {fr : Nat × Nat} (hT : TbX X ⟨tb, 0, none⟩ (tbl g x)) (hX : X b = some (.cells arr el fr)) (h0 : arr[0]? = some (.int .u32 (s : Nat))) :
    PSpec Try.prog X 29 [Vp tb, Vp b] (Lb (x == s)) := by
  have hS := tSigX X _ _ hT
  have he : (((x : Nat) : Int) == ((s : Nat) : Int)) = (x == s) := by
    rw [Bool.eq_iff_iff]; simp only [beq_iff_eq]; omega
  refine PSpec.intro Try.func29 rfl (by kernel_rfl) rfl rfl ?_
  intro C
  (refine LWP.seq <| LWP.region (by kernel_rfl) <| kas rfl <| RunK.nil <| LWP.seq <| LWP.draws mixed (by kernel_rfl) <| kmv rfl <| kca rfl rfl hS <| K.loadX rfl hX rfl h0 .plain <| keq rfl rfl he <| kas rfl <| RunK.nil <| And.intro (by kernel_rfl) ?_; refine LWP.ret ?_)
  exact ⟨[_], ⟨rfl, trivial⟩, rfl⟩
theorem idxT_spec (pad : Option Addr) (pcap : Nat) (l ps : List Nat) (hlen : ps.length = l.length) (hP : PtrsIn X (.slice pad ps.length pcap) ps) (hbig : ps.length < 4611686018427387904) (f : FuncId) (caps : List Value) (p : Nat → Bool)
    (hp : ∀ (i s b : Nat), l[i]? = some s → ps[i]? = some b → PSpec Try.prog X f ([Vp b] ++ caps.map fun v => .sv (.one (.val v))) (Lb (p s))) :
    PSpec Try.prog X 28 [Lx pad ps.length pcap, Lf f caps] (Ln .i64 (findI p l)) := by
  obtain ⟨pad', pcap', he, hP⟩ := hP
  simp only [Value.slice.injEq, true_and] at he
  obtain ⟨rfl, rfl⟩ := he
  refine PSpec.intro Try.func28 rfl (by kernel_rfl) rfl rfl ?_
  intro C
  (refine LWP.seq <| LWP.region (by kernel_rfl) <| kas rfl <| RunK.nil <| LWP.seq <| LWP.seq <| LWP.region (by kernel_rfl) <| kmv rfl <| K.lenX rfl SliceT.h rfl .plain ?_; refine kmv rfl <| RunK.nil <| LWP.block ?_)
  refine LWP.loop (fun m σ => ∃ i : Nat, i ≤ ps.length ∧ m = ps.length - i ∧ (∀ (j : Nat) (y : Nat), j < i → l[j]? = some y → p y = false) ∧ σ = ⟨[(0, Lx pad ps.length pcap), (1, Lf f caps), (7, Ln .i64 (ps.length : Nat)), (8, Ln .i64 (i : Nat))], [], X⟩) ps.length
    ⟨_, Le.of (by exact ⟨rfl, rfl, rfl, rfl, trivial⟩) (by exact trivial) (by exact rfl) (by exact rfl) (by exact rfl), 0, by omega, by omega, fun j y hj => absurd hj (by omega), rfl⟩ ?_
  rintro m σ ⟨i, hi, rfl, hpre, rfl⟩
  by_cases hlt : i < ps.length
  · obtain ⟨b, hb⟩ : ∃ b, ps[i]? = some b := ⟨_, List.getElem?_eq_getElem hlt⟩
    obtain ⟨s, hs⟩ : ∃ s, l[i]? = some s := ⟨_, List.getElem?_eq_getElem (by omega)⟩
    obtain ⟨blk, arr, el, fr, rfl, hX, hcs⟩ := hP i b hb
    have hio : 0 + Int.toNat (i : Int) * 1 = i := by simp
    have hPs := hp i s b hs hb
    have hadd : IntKind.i64.wrap (((i : Nat) : Int) + 1) = ((i + 1 : Nat) : Int) := by rw [wrap_i64 (by omega)]; omega
    cases hpc : p s with
    | true =>
      rw [hpc] at hPs
      rw [findI_some hpre hs hpc]
      (refine LWP.seq <| LWP.region (by kernel_rfl) <| klt rfl rfl (decide_eq_true (by omega)) <| RunK.nil <| LWP.seq <| LWP.condT rfl ?_; refine LWP.skip ?_; refine LWP.seq <| LWP.block <| LWP.seq <| LWP.region (by kernel_rfl) <| kmv rfl <| kas rfl <| RunK.nil <| LWP.seq <| LWP.region (by kernel_rfl) <| kmv rfl <| kmv rfl <| kmv rfl <| K.indexX rfl rfl SliceT.h (by omega) hio .plain <| K.loadX rfl hX rfl hcs .plain ?_; refine K.callF rfl rfl rfl hPs .plain ?_; refine RunK.nil <| LWP.condT rfl ?_; refine LWP.seq <| LWP.region (by kernel_rfl) <| kmv rfl <| kas rfl <| RunK.nil <| LWP.ret ?_)
      exact ⟨[_], ⟨rfl, trivial⟩, rfl⟩
    | false =>
      rw [hpc] at hPs
      (refine LWP.seq <| LWP.region (by kernel_rfl) <| klt rfl rfl (decide_eq_true (by omega)) <| RunK.nil <| LWP.seq <| LWP.condT rfl ?_; refine LWP.skip ?_; refine LWP.seq <| LWP.block <| LWP.seq <| LWP.region (by kernel_rfl) <| kmv rfl <| kas rfl <| RunK.nil <| LWP.seq <| LWP.region (by kernel_rfl) <| kmv rfl <| kmv rfl <| kmv rfl <| K.indexX rfl rfl SliceT.h (by omega) hio .plain <| K.loadX rfl hX rfl hcs .plain ?_; refine K.callF rfl rfl rfl hPs .plain ?_; refine RunK.nil <| LWP.condF rfl ?_; refine LWP.skip ?_; refine LWP.region (by kernel_rfl) <| kad rfl rfl hadd <| kmv rfl <| RunK.nil ?_)
      exact ⟨_, _, by omega, Le.of (by exact ⟨rfl, rfl, rfl, rfl, trivial⟩) (by exact trivial) (by exact rfl) (by exact rfl) (by exact rfl), i + 1, by omega, rfl, (fun j y hj hy => by
        by_cases e : j = i
        · subst e; rw [hs] at hy; cases hy; exact hpc
        · exact hpre j y (by omega) hy), rfl⟩
  · rw [findI_none fun j y hy => hpre j y (by have := (List.getElem?_eq_some_iff.1 hy).1; omega) hy]
    (refine LWP.seq <| LWP.region (by kernel_rfl) <| klt rfl rfl (decide_eq_false (by omega)) <| RunK.nil <| LWP.seq <| LWP.condF rfl ?_; refine LWP.exit <| LWP.seq <| LWP.region (by kernel_rfl) <| kas rfl <| RunK.nil <| LWP.ret ?_)
    exact ⟨[_], ⟨rfl, trivial⟩, rfl⟩
section
variable (g : Gr) (vC : Value) (pad : Option Addr) (pcap mb : Nat) (ps : List Nat) (m : List (Value × Value)) (hI : GrX X g vC (.slice pad ps.length pcap) mb ps m) (hk : GrOk g)
include hI hk
omit hk in
theorem hlen0 : MSpec Try.prog X 15 [Lp 1000000] [gS 1000000 g (.val vC) (vS' pad ps.length pcap) (mV mb)] (Ln .i64 (g.l.length : Nat)) [gS 1000000 g (.val vC) (vS' pad ps.length pcap) (mV mb)] := by
  have hl := hI.len
  refine MSpec.intro Try.func15 rfl (by kernel_rfl) rfl rfl (by exact (by repeat' (first | refine all_cons_true ?_ ?_ | rfl | exact bytes_inUse | exact vals_inUse | exact mid_inUse rfl))) rfl rfl ?_
  intro C
  rw [← hl]
  (refine LWP.seq <| LWP.region (by kernel_rfl) <| kas rfl <| RunK.nil <| LWP.seq <| LWP.seq <| LWP.region (by kernel_rfl) <| kmv rfl <| K.ptrNil rfl (by kernel_rfl) (.inl ⟨rfl, rfl⟩) .plain <| RunK.nil <| LWP.condF rfl ?_; refine LWP.skip ?_; refine LWP.seq <| LWP.region (by kernel_rfl) <| kmv rfl <| K.nilCheck rfl .plain <| kfa rfl rfl ?_; refine kl1 rfl rfl rfl <| K.lenX rfl SliceT.h rfl .plain ?_; refine kas rfl <| RunK.nil <| LWP.ret ?_)
  exact ⟨[], ⟨[_], ⟨rfl, trivial⟩, rfl⟩, (by repeat' (first | exact trivial | refine And.intro ⟨_, rfl, ?_⟩ ?_ | refine And.intro ⟨_, rfl⟩ ?_ | rfl | exact Box.ren_bytes _ _ _ _ | exact Box.ren_vals _ _ _ _ | exact Box.ren_mid rfl)), rfl, rfl⟩
theorem hroom0 : MSpec Try.prog X 19 [Lp 1000000] [gS 1000000 g (.val vC) (vS' pad ps.length pcap) (mV mb)] (Ln .i64 (g.archs - g.l.length : Nat)) [gS 1000000 g (.val vC) (vS' pad ps.length pcap) (mV mb)] := by
  have h0 := hlen0 X g vC pad pcap mb ps m hI
  have hr := hk.room
  have ha := hk.archs
  have h1 : IntKind.i64.wrap (((g.archs : Nat) : Int) - (g.l.length : Nat)) = ((g.archs - g.l.length : Nat) : Int) := by rw [wrap_i64 (by omega)]; omega
  generalize g.archs - g.l.length = rm at *
  refine MSpec.intro Try.func19 rfl (by kernel_rfl) rfl rfl (by exact (by repeat' (first | refine all_cons_true ?_ ?_ | rfl | exact bytes_inUse | exact vals_inUse | exact mid_inUse rfl))) rfl rfl ?_
  intro C
  (refine LWP.seq <| LWP.region (by kernel_rfl) <| kas rfl <| RunK.nil <| LWP.seq <| LWP.seq <| LWP.region (by kernel_rfl) <| kmv rfl <| K.ptrNil rfl (by kernel_rfl) (.inl ⟨rfl, rfl⟩) .plain <| RunK.nil <| LWP.condF rfl ?_; refine LWP.skip ?_; refine LWP.seq <| LWP.draws mixed (by kernel_rfl) <| kmv rfl <| K.nilCheck rfl .plain <| kfa rfl rfl ?_; refine kl1 rfl rfl rfl <| kmv rfl <| K.callR [(1000000, 1000000)] (h0) rfl rfl (by exact (And.intro ⟨_, rfl, rfl⟩ trivial)) (by exact (all_cons_true (all_cons_true rfl (all_cons_true rfl (all_cons_true rfl (all_cons_true rfl (all_cons_true rfl (all_cons_true rfl rfl)))))) rfl)) rfl rfl rfl rfl .plain <| K.sub rfl rfl h1 .plain <| kas rfl <| RunK.nil <| And.intro (by kernel_rfl) ?_; refine LWP.ret ?_)
  exact ⟨[], ⟨[_], ⟨rfl, trivial⟩, rfl⟩, (by repeat' (first | exact trivial | refine And.intro ⟨_, rfl, ?_⟩ ?_ | refine And.intro ⟨_, rfl⟩ ?_ | rfl | exact Box.ren_bytes _ _ _ _ | exact Box.ren_vals _ _ _ _ | exact Box.ren_mid rfl)), rfl, rfl⟩
omit hk in
theorem hways0 : MSpec Try.prog X 16 [Lp 1000000] [gS 1000000 g (.val vC) (vS' pad ps.length pcap) (mV mb)] (Ln .i64 (g.w.length : Nat)) [gS 1000000 g (.val vC) (vS' pad ps.length pcap) (mV mb)] := by
  have hw := hI.ways.len
  have hm := hI.map
  refine MSpec.intro Try.func16 rfl (by kernel_rfl) rfl rfl (by exact (by repeat' (first | refine all_cons_true ?_ ?_ | rfl | exact bytes_inUse | exact vals_inUse | exact mid_inUse rfl))) rfl rfl ?_
  intro C
  (refine LWP.seq <| LWP.region (by kernel_rfl) <| kas rfl <| RunK.nil <| LWP.seq <| LWP.seq <| LWP.region (by kernel_rfl) <| kmv rfl <| K.ptrNil rfl (by kernel_rfl) (.inl ⟨rfl, rfl⟩) .plain <| RunK.nil <| LWP.condF rfl ?_; refine LWP.skip ?_; refine LWP.seq <| LWP.region (by kernel_rfl) <| kmv rfl <| K.nilCheck rfl .plain <| kfa rfl rfl ?_; refine kl1 rfl rfl rfl <| K.lenMapX (kt := WK) (et := 3) rfl hm (by kernel_rfl) (by rw [hw]) .plain ?_; refine kas rfl <| RunK.nil <| LWP.ret ?_)
  exact ⟨[], ⟨[_], ⟨rfl, trivial⟩, rfl⟩, (by repeat' (first | exact trivial | refine And.intro ⟨_, rfl, ?_⟩ ?_ | refine And.intro ⟨_, rfl⟩ ?_ | rfl | exact Box.ren_bytes _ _ _ _ | exact Box.ren_vals _ _ _ _ | exact Box.ren_mid rfl)), rfl, rfl⟩
theorem wayAt (x : Wy) : ∃ v, At m (wyK x) v (.int .i64 0) ∧ (knowsW g.w x = true → v = .int .i64 (stepN g x.1 x.2.1 x.2.2 : Nat)) ∧ (knowsW g.w x = true ↔ ∃ p ∈ m, p.1 = wyK x) := by
  have hkm := hI.ways.key_mem (x := x)
  cases hx : knowsW g.w x with
  | true =>
    obtain ⟨h1, _⟩ := hI.ways.known hk (i := x.1) (c := x.2.1) (a := x.2.2) hx
    exact ⟨_, .inl h1, fun _ => rfl, by rw [hkm, hx]⟩
  | false => exact ⟨.int .i64 0, .inr ⟨hI.ways.no hx, rfl⟩, fun h => (by cases h), by rw [hkm, hx]⟩
theorem hknows0 (i c : Int) (a : Bool) (hi : In6 i) (hc : In6 c) : MSpec Try.prog X 14 [Lp 1000000, Ln .i64 i, Ln .i64 c, Lb a] [gS 1000000 g (.val vC) (vS' pad ps.length pcap) (mV mb)] (Lb (knowsW g.w (i, c, a))) [gS 1000000 g (.val vC) (vS' pad ps.length pcap) (mV mb)] := by
  obtain ⟨v, h1, _, h3⟩ := wayAt X g vC pad pcap mb ps m hI hk (i, c, a)
  obtain ⟨l, hl⟩ := wyK_key (x := (i, c, a)) hi hc
  have hm := hI.map
  generalize knowsW g.w (i, c, a) = q at *
  refine MSpec.intro Try.func14 rfl (by kernel_rfl) rfl rfl (by exact (by repeat' (first | refine all_cons_true ?_ ?_ | rfl | exact bytes_inUse | exact vals_inUse | exact mid_inUse rfl))) rfl rfl ?_
  intro C
  (refine LWP.seq <| LWP.region (by kernel_rfl) <| kas rfl <| RunK.nil <| LWP.seq <| LWP.seq <| LWP.region (by kernel_rfl) <| kmv rfl <| K.ptrNil rfl (by kernel_rfl) (.inl ⟨rfl, rfl⟩) .plain <| RunK.nil <| LWP.condF rfl ?_; refine LWP.skip ?_; refine LWP.seq <| LWP.region (by kernel_rfl) <| kmv rfl <| K.nilCheck rfl .plain <| kfa rfl rfl ?_; refine kl1 rfl rfl rfl <| kmv rfl <| kmv rfl <| kmv rfl <| K.build rfl rfl (by exact rfl) (by exact nl3 rfl rfl rfl rfl) .plain ?_; refine K.lookupOkX (kt := WK) (et := 3) (z := .int .i64 0) rfl rfl (agg_key (us := [.int .i64 i, .int .i64 c, .bool a])) hm (by kernel_rfl) wyL hl (by kernel_rfl) h1 h3 .plain ?_; refine kmv rfl <| kex rfl rfl <| kex rfl rfl <| kas rfl <| kas rfl <| RunK.nil <| LWP.seq <| LWP.region (by kernel_rfl) <| kmv rfl <| kas rfl <| RunK.nil <| LWP.ret ?_)
  exact ⟨[], ⟨[_], ⟨rfl, trivial⟩, rfl⟩, (by repeat' (first | exact trivial | refine And.intro ⟨_, rfl, ?_⟩ ?_ | refine And.intro ⟨_, rfl⟩ ?_ | rfl | exact Box.ren_bytes _ _ _ _ | exact Box.ren_vals _ _ _ _ | exact Box.ren_mid rfl)), rfl, rfl⟩
theorem hfind0 (s : Nat) : MSpec Try.prog X 18 [Lp 1000000, Ln .u32 (s : Nat)] [gS 1000000 g (.val vC) (vS' pad ps.length pcap) (mV mb)] (.tup [Sn .i64 ((match findG g.l s with | some i => i | none => 0 : Nat) : Nat), .one (.val (.bool (findG g.l s).isSome))]) [gS 1000000 g (.val vC) (vS' pad ps.length pcap) (mV mb)] := by
  have hlen := hI.len
  have hr := hk.room
  have ha := hk.archs
  have hfi : findI (fun x => x == s) g.l = match findG g.l s with | some i => (i : Nat) | none => -1 := rfl
  refine MSpec.intro Try.func18 rfl (by kernel_rfl) rfl rfl (by exact (by repeat' (first | refine all_cons_true ?_ ?_ | rfl | exact bytes_inUse | exact vals_inUse | exact mid_inUse rfl))) rfl rfl ?_
  intro C
  (refine LWP.seq <| LWP.region (by kernel_rfl) <| K.box1 rfl rfl rfl .plain <| kas rfl <| kas rfl <| RunK.nil <| LWP.seq <| LWP.seq <| LWP.region (by kernel_rfl) <| kmv rfl <| K.ptrNil rfl (by kernel_rfl) (.inl ⟨rfl, rfl⟩) .plain <| RunK.nil <| LWP.condF rfl ?_; refine LWP.skip ?_; refine LWP.seq ?_)
  refine LWP.le (σ' := ⟨[(3, Lp 3), (0, Lp 1000000)], [(3, some ⟨35, [Value.int .u32 (s : Nat)].map .val, false⟩), gS 1000000 g (.val vC) (vS' pad ps.length pcap) (mV mb)], X⟩) (Le.of (by exact ⟨rfl, rfl, trivial⟩) (by exact ⟨rfl, rfl, trivial⟩) (by exact rfl) (by exact rfl) (by repeat' (first | refine all_cons_true ?_ ?_ | rfl | exact bytes_inUse | exact vals_inUse | exact mid_inUse rfl))) ?_
  refine LWP.freezePtr (by rfl) (by rfl) (by rfl) fun b arr0 fr0 hn _ h0 => ?_
  have hI' := hI.mono (withBlock_old (o := .cells arr0 35 fr0) hn)
  have hq := idxT_spec _ pad pcap g.l ps hlen hI'.ptrs (by omega) 29 [.pointer (some ⟨b, 0, none⟩)] (fun x => x == s) fun i x tb hx htb => by
    obtain ⟨tb', e1, e2⟩ := hI'.tabs i x hx
    rw [htb] at e1
    simp only [Option.some.injEq] at e1
    subst e1
    exact tfind1_spec _ s x g e2 (withBlock_at X b (.cells arr0 35 fr0)) (at_zero h0)
  rw [hfi] at hq
  cases hf : findG g.l s with
  | none =>
    rw [hf] at hq
    simp only at hq ⊢
    (refine LWP.region (by kernel_rfl) <| kmv rfl <| K.nilCheck rfl .plain <| kfa rfl rfl ?_; refine kl1 rfl rfl rfl <| K.makeFunc rfl rfl .plain ?_; refine kca rfl rfl hq <| kas rfl <| RunK.nil <| LWP.seq <| LWP.region (by kernel_rfl) <| kmv rfl <| K.max2 rfl rfl (c := 0) (by decide) .plain ?_; refine kmv rfl <| K.geq rfl rfl (r := false) (by decide) .plain <| kas rfl <| kas rfl <| RunK.nil <| LWP.ret ?_)
    exact ⟨[], ⟨[_, _], ⟨rfl, rfl, trivial⟩, rfl⟩, (by repeat' (first | exact trivial | refine And.intro ⟨_, rfl, ?_⟩ ?_ | refine And.intro ⟨_, rfl⟩ ?_ | rfl | exact Box.ren_bytes _ _ _ _ | exact Box.ren_vals _ _ _ _ | exact Box.ren_mid rfl)), rfl, rfl⟩
  | some i =>
    rw [hf] at hq
    simp only at hq ⊢
    (refine LWP.region (by kernel_rfl) <| kmv rfl <| K.nilCheck rfl .plain <| kfa rfl rfl ?_; refine kl1 rfl rfl rfl <| K.makeFunc rfl rfl .plain ?_; refine kca rfl rfl hq <| kas rfl <| RunK.nil <| LWP.seq <| LWP.region (by kernel_rfl) <| kmv rfl <| K.max2 rfl rfl (c := (i : Nat)) (by split <;> omega) .plain ?_; refine kmv rfl <| K.geq rfl rfl (r := true) (decide_eq_true (by omega)) .plain <| kas rfl <| kas rfl <| RunK.nil <| LWP.ret ?_)
    exact ⟨[], ⟨[_, _], ⟨rfl, rfl, trivial⟩, rfl⟩, (by repeat' (first | exact trivial | refine And.intro ⟨_, rfl, ?_⟩ ?_ | refine And.intro ⟨_, rfl⟩ ?_ | rfl | exact Box.ren_bytes _ _ _ _ | exact Box.ren_vals _ _ _ _ | exact Box.ren_mid rfl)), rfl, rfl⟩
theorem htable0_no (i : Int) (h : rowG g i = false) : MSpec Try.prog X 9 [Lp 1000000, Ln .i64 i] [gS 1000000 g (.val vC) (vS' pad ps.length pcap) (mV mb)] LnilT [gS 1000000 g (.val vC) (vS' pad ps.length pcap) (mV mb)] := by
  have _ := hk
  have h0 := hlen0 X g vC pad pcap mb ps m hI
  unfold rowG at h
  rw [Bool.and_eq_false_iff, decide_eq_false_iff_not, decide_eq_false_iff_not] at h
  refine MSpec.intro Try.func9 rfl (by kernel_rfl) rfl rfl (by exact (by repeat' (first | refine all_cons_true ?_ ?_ | rfl | exact bytes_inUse | exact vals_inUse | exact mid_inUse rfl))) rfl rfl ?_
  intro C
  by_cases hi : i < 0
  · (refine LWP.seq <| LWP.region (by kernel_rfl) <| kas rfl <| RunK.nil <| LWP.seq <| LWP.seq <| LWP.region (by kernel_rfl) <| kmv rfl <| klt rfl rfl (decide_eq_true hi) <| kmv rfl <| RunK.passed rfl rfl rfl <| RunK.passed rfl rfl rfl <| RunK.passed rfl rfl rfl <| RunK.passed rfl rfl rfl ?_; refine kpt rfl rfl <| RunK.nil <| LWP.condT rfl ?_; refine LWP.seq <| LWP.region (by kernel_rfl) <| kas rfl <| RunK.nil <| LWP.ret ?_)
    exact ⟨[], ⟨[_], ⟨rfl, trivial⟩, rfl⟩, (by repeat' (first | exact trivial | refine And.intro ⟨_, rfl, ?_⟩ ?_ | refine And.intro ⟨_, rfl⟩ ?_ | rfl | exact Box.ren_bytes _ _ _ _ | exact Box.ren_vals _ _ _ _ | exact Box.ren_mid rfl)), rfl, rfl⟩
  · (refine LWP.seq <| LWP.region (by kernel_rfl) <| kas rfl <| RunK.nil <| LWP.seq <| LWP.seq <| LWP.region (by kernel_rfl) <| kmv rfl <| klt rfl rfl (decide_eq_false hi) <| kmv rfl <| gmv rfl rfl rfl <| gmv rfl rfl rfl <| K.callR [(1000000, 1000000)] (h0) rfl rfl (by exact (And.intro ⟨_, rfl, rfl⟩ trivial)) (by exact (all_cons_true (all_cons_true rfl (all_cons_true rfl (all_cons_true rfl (all_cons_true rfl (all_cons_true rfl (all_cons_true rfl rfl)))))) rfl)) rfl rfl rfl rfl (.taken rfl rfl) ?_; refine K.geq rfl rfl (decide_eq_true (by omega)) (.taken rfl rfl) ?_; refine kpf rfl rfl <| RunK.nil <| LWP.condT rfl ?_; refine LWP.seq <| LWP.region (by kernel_rfl) <| kas rfl <| RunK.nil <| LWP.ret ?_)
    exact ⟨[], ⟨[_], ⟨rfl, trivial⟩, rfl⟩, (by repeat' (first | exact trivial | refine And.intro ⟨_, rfl, ?_⟩ ?_ | refine And.intro ⟨_, rfl⟩ ?_ | rfl | exact Box.ren_bytes _ _ _ _ | exact Box.ren_vals _ _ _ _ | exact Box.ren_mid rfl)), rfl, rfl⟩
theorem htable0 (i b : Nat) (h : ps[i]? = some b) : MSpec Try.prog X 9 [Lp 1000000, Ln .i64 (i : Nat)] [gS 1000000 g (.val vC) (vS' pad ps.length pcap) (mV mb)] (Vp b) [gS 1000000 g (.val vC) (vS' pad ps.length pcap) (mV mb)] := by
  have _ := hk
  have h0 := hlen0 X g vC pad pcap mb ps m hI
  have hi := (List.getElem?_eq_some_iff.1 h).1
  have hlen := hI.len
  obtain ⟨pad', pcap', he, hP⟩ := hI.ptrs
  simp only [Value.slice.injEq, true_and] at he
  obtain ⟨rfl, rfl⟩ := he
  obtain ⟨blk, arr, el, fr, rfl, hX, hcs⟩ := hP i b h
  have hio : 0 + Int.toNat (i : Int) * 1 = i := by simp
  refine MSpec.intro Try.func9 rfl (by kernel_rfl) rfl rfl (by exact (by repeat' (first | refine all_cons_true ?_ ?_ | rfl | exact bytes_inUse | exact vals_inUse | exact mid_inUse rfl))) rfl rfl ?_
  intro C
  (refine LWP.seq <| LWP.region (by kernel_rfl) <| kas rfl <| RunK.nil <| LWP.seq <| LWP.seq <| LWP.region (by kernel_rfl) <| kmv rfl <| klt rfl rfl (decide_eq_false (by omega)) <| kmv rfl <| gmv rfl rfl rfl <| gmv rfl rfl rfl <| K.callR [(1000000, 1000000)] (h0) rfl rfl (by exact (And.intro ⟨_, rfl, rfl⟩ trivial)) (by exact (all_cons_true (all_cons_true rfl (all_cons_true rfl (all_cons_true rfl (all_cons_true rfl (all_cons_true rfl (all_cons_true rfl rfl)))))) rfl)) rfl rfl rfl rfl (.taken rfl rfl) ?_; refine K.geq rfl rfl (decide_eq_false (by omega)) (.taken rfl rfl) ?_; refine kpf rfl rfl <| RunK.nil <| LWP.condF rfl ?_; refine LWP.skip ?_; refine LWP.seq <| LWP.region (by kernel_rfl) <| kmv rfl <| K.nilCheck rfl .plain <| kfa rfl rfl ?_; refine kl1 rfl rfl rfl <| kmv rfl <| K.indexX rfl rfl SliceT.h (by omega) hio .plain <| K.loadX rfl hX rfl hcs .plain <| kas rfl <| RunK.nil <| LWP.ret ?_)
  exact ⟨[], ⟨[_], ⟨rfl, trivial⟩, rfl⟩, (by repeat' (first | exact trivial | refine And.intro ⟨_, rfl, ?_⟩ ?_ | refine And.intro ⟨_, rfl⟩ ?_ | rfl | exact Box.ren_bytes _ _ _ _ | exact Box.ren_vals _ _ _ _ | exact Box.ren_mid rfl)), rfl, rfl⟩
end
abbrev sgB (k : Nat) (l : List Nat) : Nat × Option Box := (k, some ⟨35, (u32V l).map .val, false⟩)
theorem gu32_len (l : List Nat) : (u32V l).length = l.length := List.length_map _
end Go.Proofs.Ytjifibloagkeeaa
end
section
namespace Go.Proofs.Ytjifibloagkeeaa
open Go Go.Lg Go.Lg.Fld Go.Lg.Sg Go.Lg.Col
set_option maxRecDepth 100000
abbrev Lw (x : Wy) : LV := .sv (.agg [.val (.int .i64 x.1), .val (.int .i64 x.2.1), .val (.bool x.2.2)])
abbrev wyB (k : Nat) (i c : Int) (a : Bool) : Nat × Option Box := (k, some ⟨67, [.val (.int .i64 i), .val (.int .i64 c), .val (.bool a)], false⟩)
def chkS (g : Gr) (i c : Int) (a : Bool) : Int := if rowG g i = true then (if hasC g.sc.cs c = true then (if hasB (setAt g i) c = a then 7 else 0) else 6) else 3
theorem stepE_chk (g : Gr) (i c : Int) (a : Bool) : stepE g i c a = if chkS g i c a = 0 then makeE g (nextS (setAt g i) c a) else chkS g i c a := by
  unfold stepE chkS
  by_cases h1 : rowG g i = true
  · rw [if_pos h1, if_pos h1]
    by_cases h2 : hasC g.sc.cs c = true
    · rw [if_pos h2, if_pos h2]
      by_cases h3 : hasB (setAt g i) c = a
      · rw [if_pos h3, if_pos h3, if_neg (by decide)]
      · rw [if_neg h3, if_neg h3, if_pos rfl]
    · rw [if_neg h2, if_neg h2, if_neg (by decide)]
  · rw [if_neg h1, if_neg h1, if_neg (by decide)]
variable (X : Nat → Option Obj)
theorem hOf (i c : Int) (a : Bool) (s : Nat) (hs : s < 4294967296) : PSpec Try.prog X 25 [Lw (i, c, a), Ln .u32 (s : Nat)] (Ln .u32 (nextS s c a : Nat)) := by
  have h1 := gWith X s hs c
  have h2 := gWithout X s hs c
  refine PSpec.intro Try.func25 rfl (by kernel_rfl) rfl rfl ?_
  intro C
  unfold nextS
  cases a with
  | true =>
    (refine LWP.seq <| LWP.region (by kernel_rfl) <| K.box rfl rfl rfl .plain <| kas rfl <| RunK.nil <| LWP.seq <| LWP.seq <| LWP.region (by kernel_rfl) <| kfa rfl rfl ?_; refine kl1 rfl rfl rfl <| RunK.nil <| LWP.condT rfl ?_; refine LWP.seq <| LWP.region (by kernel_rfl) <| kmv rfl <| kfa rfl rfl ?_; refine kl1 rfl rfl rfl <| kca rfl rfl h1 <| kas rfl <| RunK.nil <| LWP.ret ?_)
    exact ⟨[_], ⟨rfl, trivial⟩, rfl⟩
  | false =>
    (refine LWP.seq <| LWP.region (by kernel_rfl) <| K.box rfl rfl rfl .plain <| kas rfl <| RunK.nil <| LWP.seq <| LWP.seq <| LWP.region (by kernel_rfl) <| kfa rfl rfl ?_; refine kl1 rfl rfl rfl <| RunK.nil <| LWP.condF rfl ?_; refine LWP.skip ?_; refine LWP.seq <| LWP.region (by kernel_rfl) <| kmv rfl <| kfa rfl rfl ?_; refine kl1 rfl rfl rfl <| kca rfl rfl h2 <| kas rfl <| RunK.nil <| LWP.ret ?_)
    exact ⟨[_], ⟨rfl, trivial⟩, rfl⟩
theorem hBack (i c : Int) (a : Bool) (t : Int) : PSpec Try.prog X 26 [Lw (i, c, a), Ln .i64 t] (Lw (t, c, !a)) := by
  refine PSpec.intro Try.func26 rfl (by kernel_rfl) rfl rfl ?_
  intro C
  (refine LWP.seq <| LWP.region (by kernel_rfl) <| K.box rfl rfl rfl .plain <| K.alloc rfl .plain ?_; refine RunK.nil <| LWP.seq <| LWP.region (by kernel_rfl) <| kmv rfl <| kfa rfl rfl ?_; refine kl1 rfl rfl rfl <| kfa rfl rfl ?_; refine kl1 rfl rfl rfl <| K.not rfl rfl .plain <| K.build rfl rfl (by exact rfl) (by exact nl3 rfl rfl rfl rfl) .plain ?_; refine K.storeAll rfl rfl rfl rfl rfl rfl .plain ?_; refine RunK.nil <| LWP.ret ?_)
  exact ⟨[_], ⟨⟨_, _, rfl, rfl, rfl, .inl ⟨AggT.h, rfl⟩⟩, trivial⟩, rfl⟩
abbrev z32 (k : Nat) : List Value := List.replicate k (Value.int .u32 0)
section
variable (g : Gr) (vC : Value) (pad : Option Addr) (pcap mb : Nat) (ps : List Nat) (m : List (Value × Value)) (hI : GrX X g vC (.slice pad ps.length pcap) mb ps m) (hk : GrOk g)
include hI hk
set_option maxHeartbeats 3200000 in
theorem hcheck0 (i c : Int) (a : Bool) : MSpec Try.prog X 24 [Lp 1000000, Lw (i, c, a)] [gS 1000000 g (.val vC) (vS' pad ps.length pcap) (mV mb)] (Ln .i64 (chkS g i c a)) [gS 1000000 g (.val vC) (vS' pad ps.length pcap) (mV mb)] := by
  obtain ⟨cb, cc, rfl, hin⟩ := hI.sc
  have hfew := hI.few
  have hno := htable0_no X g _ pad pcap mb ps m hI hk i
  have hyes := htable0 X g _ pad pcap mb ps m hI hk
  refine MSpec.intro Try.func24 rfl (by kernel_rfl) rfl rfl (by exact (by repeat' (first | refine all_cons_true ?_ ?_ | rfl | exact bytes_inUse | exact vals_inUse | exact mid_inUse rfl))) rfl rfl ?_
  intro C
  unfold chkS
  by_cases h1 : rowG g i = true
  case neg =>
    rw [if_neg h1]
    have hT := hno (by simpa using h1)
    (refine LWP.seq <| LWP.region (by kernel_rfl) <| K.box rfl rfl rfl .plain <| kas rfl <| RunK.nil <| LWP.seq <| LWP.region (by kernel_rfl) <| kmv rfl <| kfa rfl rfl ?_; refine kl1 rfl rfl rfl <| K.callR [(1000000, 1000000)] (hT) rfl rfl (by exact (And.intro ⟨_, rfl, rfl⟩ trivial)) (by exact (all_cons_true (all_cons_true rfl (all_cons_true rfl (all_cons_true rfl (all_cons_true rfl (all_cons_true rfl (all_cons_true rfl rfl)))))) rfl)) rfl rfl rfl rfl .plain <| kas rfl <| RunK.nil <| LWP.seq <| LWP.seq <| LWP.region (by kernel_rfl) <| kmv rfl <| K.nilNil rfl (by kernel_rfl) (.inl ⟨rfl, rfl⟩) .plain <| RunK.nil <| LWP.condT rfl ?_; refine LWP.seq <| LWP.region (by kernel_rfl) <| kas rfl <| RunK.nil <| LWP.ret ?_)
    exact ⟨[], ⟨[_], ⟨rfl, trivial⟩, rfl⟩, (by repeat' (first | exact trivial | refine And.intro ⟨_, rfl, ?_⟩ ?_ | refine And.intro ⟨_, rfl⟩ ?_ | rfl | exact Box.ren_bytes _ _ _ _ | exact Box.ren_vals _ _ _ _ | exact Box.ren_mid rfl)), rfl, rfl⟩
  rw [if_pos h1]
  obtain ⟨j, s, rfl, hs⟩ := rowG_at h1
  obtain ⟨b, hb, hT⟩ := hI.tabs j s hs
  have hTb := hyes j b hb
  have hSg := tSigX X _ _ hT
  have hs32 := (hk.can s (List.mem_of_getElem? hs)).2
  have hH := gHas X s hs32 c
  rw [setAt_of hs]
  by_cases h2 : hasC g.sc.cs c = true
  case neg =>
    rw [if_neg h2]
    have hF := pFind_no X g.sc.ver (some ⟨cb, 0, none⟩) cc g.sc.cs c hin (by omega) (hasC_no (by simpa using h2))
    generalize g.sc.cs.length = nc at *
    (refine LWP.seq <| LWP.region (by kernel_rfl) <| K.box rfl rfl rfl .plain <| kas rfl <| RunK.nil <| LWP.seq <| LWP.region (by kernel_rfl) <| kmv rfl <| kfa rfl rfl ?_; refine kl1 rfl rfl rfl <| K.callR [(1000000, 1000000)] (hTb) rfl rfl (by exact (And.intro ⟨_, rfl, rfl⟩ trivial)) (by exact (all_cons_true (all_cons_true rfl (all_cons_true rfl (all_cons_true rfl (all_cons_true rfl (all_cons_true rfl (all_cons_true rfl rfl)))))) rfl)) rfl rfl rfl rfl .plain <| kas rfl <| RunK.nil <| LWP.seq <| LWP.seq <| LWP.region (by kernel_rfl) <| kmv rfl <| K.ptrNilX rfl (by kernel_rfl) (Or.inl ⟨rfl, rfl⟩) .plain ?_; refine RunK.nil <| LWP.condF rfl ?_; refine LWP.skip ?_; refine LWP.seq <| LWP.seq <| LWP.draws mixed (by kernel_rfl) <| kmv rfl <| K.nilCheck rfl .plain <| kfa rfl rfl ?_; refine K.loadPart rfl rfl rfl (by exact nl2 rfl rfl rfl) .plain ?_; refine kfa rfl rfl ?_; refine kl1 rfl rfl rfl <| kca rfl rfl hF <| kmv rfl <| kex rfl rfl <| kex rfl rfl <| K.alloc rfl .plain ?_; refine K.storeAll rfl rfl rfl rfl rfl rfl .plain ?_; refine kas rfl <| RunK.nil <| And.intro (by kernel_rfl) ?_; refine LWP.seq <| LWP.region (by kernel_rfl) <| kmv rfl <| K.not rfl rfl .plain <| RunK.nil <| LWP.condT rfl ?_; refine LWP.seq <| LWP.region (by kernel_rfl) <| kas rfl <| RunK.nil <| LWP.ret ?_)
    exact ⟨[], ⟨[_], ⟨rfl, trivial⟩, rfl⟩, (by repeat' (first | exact trivial | refine And.intro ⟨_, rfl, ?_⟩ ?_ | refine And.intro ⟨_, rfl⟩ ?_ | rfl | exact Box.ren_bytes _ _ _ _ | exact Box.ren_vals _ _ _ _ | exact Box.ren_mid rfl)), rfl, rfl⟩
  rw [if_pos h2]
  obtain ⟨q, x, hx, hxi, hpre⟩ := hasC_first h2
  have hF := pFind X g.sc.ver (some ⟨cb, 0, none⟩) cc g.sc.cs c hin (by omega) (fun y hy => by have := hfew.2 y hy; omega) hpre hx hxi
  generalize g.sc.cs.length = nc at *
  (refine LWP.seq <| LWP.region (by kernel_rfl) <| K.box rfl rfl rfl .plain <| kas rfl <| RunK.nil <| LWP.seq <| LWP.region (by kernel_rfl) <| kmv rfl <| kfa rfl rfl ?_; refine kl1 rfl rfl rfl <| K.callR [(1000000, 1000000)] (hTb) rfl rfl (by exact (And.intro ⟨_, rfl, rfl⟩ trivial)) (by exact (all_cons_true (all_cons_true rfl (all_cons_true rfl (all_cons_true rfl (all_cons_true rfl (all_cons_true rfl (all_cons_true rfl rfl)))))) rfl)) rfl rfl rfl rfl .plain <| kas rfl <| RunK.nil <| LWP.seq <| LWP.seq <| LWP.region (by kernel_rfl) <| kmv rfl <| K.ptrNilX rfl (by kernel_rfl) (Or.inl ⟨rfl, rfl⟩) .plain ?_; refine RunK.nil <| LWP.condF rfl ?_; refine LWP.skip ?_; refine LWP.seq <| LWP.seq ?_)
  refine LWP.le (σ' := ⟨[(0, Lp 1000000), (3, Lp 3), (5, Vp b)], [wyB 3 (j : Nat) c a, gS 1000000 g (vS' (some ⟨cb, 0, none⟩) nc cc) (vS' pad ps.length pcap) (mV mb)], X⟩) (Le.of (by exact ⟨rfl, rfl, rfl, trivial⟩) (by exact ⟨rfl, rfl, trivial⟩) (by exact rfl) (by exact rfl) (by repeat' (first | refine all_cons_true ?_ ?_ | rfl | exact bytes_inUse | exact vals_inUse | exact mid_inUse rfl))) ?_
  repeat refine LWP.seq ?_
  refine LWP.meetL (fun σ => σ = ⟨[(0, Lp 1000000), (3, Lp 3), (5, Vp b), (7, Lb true)], [wyB 3 (j : Nat) c a, gS 1000000 g (vS' (some ⟨cb, 0, none⟩) nc cc) (vS' pad ps.length pcap) (mV mb)], X⟩) ?_ ?_
  · rcases hF with ⟨_, hf⟩ | hf
    · (refine LWP.draws mixed (by kernel_rfl) <| kmv rfl <| K.nilCheck rfl .plain <| kfa rfl rfl ?_; refine K.loadPart rfl rfl rfl (by exact nl2 rfl rfl rfl) .plain ?_; refine kfa rfl rfl ?_; refine kl1 rfl rfl rfl <| kca rfl rfl hf <| kmv rfl <| kex rfl rfl <| kex rfl rfl <| K.alloc rfl .plain ?_; refine K.storeAll rfl rfl rfl rfl rfl rfl .plain ?_; refine kas rfl <| RunK.nil <| And.intro (by kernel_rfl) ?_)
      exact Leads.here (Le.of (by exact ⟨rfl, rfl, rfl, rfl, trivial⟩) (by exact ⟨rfl, rfl, trivial⟩) (by exact rfl) (by exact rfl) (by repeat' (first | refine all_cons_true ?_ ?_ | rfl | exact bytes_inUse | exact vals_inUse | exact mid_inUse rfl))) rfl
    · (refine LWP.draws mixed (by kernel_rfl) <| kmv rfl <| K.nilCheck rfl .plain <| kfa rfl rfl ?_; refine K.loadPart rfl rfl rfl (by exact nl2 rfl rfl rfl) .plain ?_; refine kfa rfl rfl ?_; refine kl1 rfl rfl rfl <| K.callMp [(1000001, 601)] (.tup [SCs x 601, Sb true]) [fdB 601 x.fs] (hf) rfl rfl (by exact trivial) rfl rfl rfl rfl rfl (by exact (.box rfl (Box.ren_vals _ _ _ _) .nil)) .plain <| kmv rfl <| kex rfl rfl <| kex rfl rfl <| K.alloc rfl .plain ?_; refine K.storeAll rfl rfl rfl rfl rfl rfl .plain ?_; refine kas rfl <| RunK.nil <| And.intro (by kernel_rfl) ?_)
      exact Leads.here (Le.of (by exact ⟨rfl, rfl, rfl, rfl, trivial⟩) (by exact ⟨rfl, rfl, trivial⟩) (by exact rfl) (by exact rfl) (by repeat' (first | refine all_cons_true ?_ ?_ | rfl | exact bytes_inUse | exact vals_inUse | exact mid_inUse rfl))) rfl
  rintro σ rfl
  clear hF
  by_cases h3 : hasB s c = a
  · rw [if_pos h3]
    generalize hasB s c = hb0 at *
    subst h3
    (refine LWP.seq <| LWP.region (by kernel_rfl) <| kmv rfl <| K.not rfl rfl .plain <| RunK.nil <| LWP.condF rfl ?_; refine LWP.skip ?_; refine LWP.seq <| LWP.seq <| LWP.draws mixed (by kernel_rfl) <| kmv rfl <| kca rfl rfl hSg <| kfa rfl rfl ?_; refine kl1 rfl rfl rfl <| kca rfl rfl hH <| kfa rfl rfl ?_; refine kl1 rfl rfl rfl <| K.eqlB rfl rfl (r := true) (by simp) .plain <| RunK.nil <| And.intro (by kernel_rfl) ?_; refine LWP.condT rfl ?_; refine LWP.seq <| LWP.region (by kernel_rfl) <| kas rfl <| RunK.nil <| LWP.ret ?_)
    exact ⟨[], ⟨[_], ⟨rfl, trivial⟩, rfl⟩, (by repeat' (first | exact trivial | refine And.intro ⟨_, rfl, ?_⟩ ?_ | refine And.intro ⟨_, rfl⟩ ?_ | rfl | exact Box.ren_bytes _ _ _ _ | exact Box.ren_vals _ _ _ _ | exact Box.ren_mid rfl)), rfl, rfl⟩
  · rw [if_neg h3]
    (refine LWP.seq <| LWP.region (by kernel_rfl) <| kmv rfl <| K.not rfl rfl .plain <| RunK.nil <| LWP.condF rfl ?_; refine LWP.skip ?_; refine LWP.seq <| LWP.seq <| LWP.draws mixed (by kernel_rfl) <| kmv rfl <| kca rfl rfl hSg <| kfa rfl rfl ?_; refine kl1 rfl rfl rfl <| kca rfl rfl hH <| kfa rfl rfl ?_; refine kl1 rfl rfl rfl <| K.eqlB rfl rfl (r := false) (by simpa using h3) .plain <| RunK.nil <| And.intro (by kernel_rfl) ?_; refine LWP.condF rfl ?_; refine LWP.skip ?_; refine LWP.seq <| LWP.region (by kernel_rfl) <| kas rfl <| RunK.nil <| LWP.ret ?_)
    exact ⟨[], ⟨[_], ⟨rfl, trivial⟩, rfl⟩, (by repeat' (first | exact trivial | refine And.intro ⟨_, rfl, ?_⟩ ?_ | refine And.intro ⟨_, rfl⟩ ?_ | rfl | exact Box.ren_bytes _ _ _ _ | exact Box.ren_vals _ _ _ _ | exact Box.ren_mid rfl)), rfl, rfl⟩
set_option maxHeartbeats 3200000 in
theorem hsigs0 : MSpec Try.prog X 17 [Lp 1000000] [gS 1000000 g (.val vC) (vS' pad ps.length pcap) (mV mb)] (.sv (.one (.slc 1000001 0 g.l.length 1))) [gS 1000000 g (.val vC) (vS' pad ps.length pcap) (mV mb), sgB 1000001 g.l] := by
  have hlen := hI.len
  have hr := hk.room
  have ha := hk.archs
  have htabs := hI.tabs
  obtain ⟨pad', pcap', he, hP⟩ := hI.ptrs
  simp only [Value.slice.injEq, true_and] at he
  obtain ⟨rfl, rfl⟩ := he
  have hmk : slcBuild Try.prog 46 ps.length = some (List.replicate ps.length (Value.int .u32 0), 1, 35) := slcBuild_one (by kernel_rfl) (by kernel_rfl) (by omega)
  refine MSpec.intro Try.func17 rfl (by kernel_rfl) rfl rfl (by exact (by repeat' (first | refine all_cons_true ?_ ?_ | rfl | exact bytes_inUse | exact vals_inUse | exact mid_inUse rfl))) rfl rfl ?_
  intro C
  rw [← hlen]
  (refine LWP.seq <| LWP.region (by kernel_rfl) <| kas rfl <| RunK.nil <| LWP.seq <| LWP.seq <| LWP.region (by kernel_rfl) <| kmv rfl <| K.ptrNil rfl (by kernel_rfl) (.inl ⟨rfl, rfl⟩) .plain <| RunK.nil <| LWP.condF rfl ?_; refine LWP.skip ?_; refine LWP.seq <| LWP.region (by kernel_rfl) <| kmv rfl <| K.nilCheck rfl .plain <| kfa rfl rfl ?_; refine kl1 rfl rfl rfl <| K.lenX rfl SliceT.h rfl .plain ?_; refine K.makeSlc (m := ps.length) (bytes := 4) rfl rfl hmk (by kernel_rfl) (by omega) rfl rfl .plain <| kas rfl <| RunK.nil <| LWP.seq <| LWP.seq <| LWP.region (by kernel_rfl) <| kmv rfl <| K.nilCheck rfl .plain <| kfa rfl rfl ?_; refine kl1 rfl rfl rfl <| K.lenX rfl SliceT.h rfl .plain ?_; refine kmv rfl <| RunK.nil <| LWP.block ?_)
  refine LWP.loop (fun z σ => ∃ j : Nat, j ≤ ps.length ∧ z = ps.length - j ∧ σ = ⟨[(0, Lp 1000000), (3, .sv (.one (.slc 603 0 ps.length 1))), (17, Lx pad ps.length pcap), (18, Ln .i64 (ps.length : Nat)), (19, Ln .i64 (j : Nat))], [(603, some ⟨35, (u32V (g.l.take j) ++ z32 (ps.length - j)).map .val, false⟩), gS 1000000 g (.val vC) (vS' pad ps.length pcap) (mV mb)], X⟩) ps.length
    ⟨⟨[(0, Lp 1000000), (3, .sv (.one (.slc 603 0 ps.length 1))), (17, Lx pad ps.length pcap), (18, Ln .i64 (ps.length : Nat)), (19, Ln .i64 (0 : Nat))], [(603, some ⟨35, (u32V (g.l.take 0) ++ z32 (ps.length - 0)).map .val, false⟩), gS 1000000 g (.val vC) (vS' pad ps.length pcap) (mV mb)], X⟩, Le.ofR [(603, 13)] (by exact ⟨rfl, rfl, rfl, rfl, rfl, trivial⟩) (by repeat' (first | exact trivial | refine And.intro ⟨_, rfl, ?_⟩ ?_ | refine And.intro ⟨_, rfl⟩ ?_ | rfl | exact Box.ren_bytes _ _ _ _ | exact Box.ren_vals _ _ _ _ | exact Box.ren_mid rfl)) (by exact rfl) (by exact rfl) (by repeat' (first | refine all_cons_true ?_ ?_ | rfl | exact bytes_inUse | exact vals_inUse | exact mid_inUse rfl)) (by exact rfl) (by exact rfl), 0, by omega, by omega, rfl⟩ ?_
  rintro z σ ⟨j, hj, rfl, rfl⟩
  by_cases hlt : j < ps.length
  · obtain ⟨s, hs⟩ : ∃ s, g.l[j]? = some s := ⟨_, List.getElem?_eq_getElem (by omega)⟩
    obtain ⟨b, hb, hT⟩ := htabs j s hs
    obtain ⟨blk, arr, el, fr, rfl, hX, hcs⟩ := hP j b hb
    have hSg := tSigX X _ _ hT
    have hio : 0 + Int.toNat (j : Int) * 1 = j := by simp
    have hadd : IntKind.i64.wrap (((j : Nat) : Int) + 1) = ((j + 1 : Nat) : Int) := by rw [wrap_i64 (by omega)]; omega
    have hblt : Nat.blt j ((u32V (g.l.take j) ++ z32 (ps.length - j)).map CV.val).length = true := by rw [Nat.blt_eq, List.length_map, List.length_append, gu32_len, List.length_take, List.length_replicate]; omega
    have hput : ((u32V (g.l.take j) ++ z32 (ps.length - j)).map CV.val).set j (.val (.int .u32 (s : Nat))) = (u32V (g.l.take (j + 1)) ++ z32 (ps.length - (j + 1))).map .val := by
      rw [← List.map_set (f := CV.val), fill_put (by rw [gu32_len, List.length_take]; omega) hlt, take_snoc hs]
      unfold u32V
      simp
    (refine LWP.seq <| LWP.region (by kernel_rfl) <| klt rfl rfl (decide_eq_true (by omega)) <| RunK.nil <| LWP.seq <| LWP.condT rfl ?_; refine LWP.skip ?_; refine LWP.seq <| LWP.block <| LWP.seq <| LWP.region (by kernel_rfl) <| kmv rfl <| K.indexX rfl rfl SliceT.h (by omega) hio .plain <| K.loadX rfl hX rfl hcs .plain <| kas rfl <| kas rfl <| RunK.nil <| LWP.region (by kernel_rfl) <| kmv rfl <| kmv rfl <| kmv rfl ?_; refine kca rfl rfl hSg <| K.indexSlc rfl rfl (by omega) hio .plain ?_; refine K.storeOne rfl rfl rfl rfl hblt hput .plain <| RunK.nil <| LWP.region (by kernel_rfl) <| kad rfl rfl hadd <| kmv rfl <| RunK.nil ?_)
    exact ⟨_, ⟨[(0, Lp 1000000), (3, .sv (.one (.slc 603 0 ps.length 1))), (17, Lx (some ⟨blk, 0, none⟩) ps.length pcap), (18, Ln .i64 (ps.length : Nat)), (19, Ln .i64 (j + 1 : Nat))], [(603, some ⟨35, (u32V (g.l.take (j + 1)) ++ z32 (ps.length - (j + 1))).map .val, false⟩), gS 1000000 g (.val vC) (vS' (some ⟨blk, 0, none⟩) ps.length pcap) (mV mb)], X⟩, (by omega : ps.length - (j + 1) < ps.length - j), Le.of (by exact ⟨rfl, rfl, rfl, rfl, rfl, trivial⟩) (by exact ⟨rfl, rfl, trivial⟩) (by exact rfl) (by exact rfl) (by repeat' (first | refine all_cons_true ?_ ?_ | rfl | exact bytes_inUse | exact vals_inUse | exact mid_inUse rfl)), j + 1, by omega, rfl, rfl⟩
  · have e : j = ps.length := by omega
    subst e
    (refine LWP.seq <| LWP.region (by kernel_rfl) <| klt rfl rfl (decide_eq_false (by omega)) <| RunK.nil <| LWP.seq <| LWP.condF rfl ?_; refine LWP.exit <| LWP.seq <| LWP.region (by kernel_rfl) <| kmv rfl <| kas rfl <| RunK.nil <| LWP.ret ?_)
    rw [List.take_of_length_le (by omega), Nat.sub_self, show z32 0 = [] from rfl, List.append_nil]
    exact ⟨[(1000001, 603)], ⟨[_], ⟨rfl, trivial⟩, rfl⟩, (by repeat' (first | exact trivial | refine And.intro ⟨_, rfl, ?_⟩ ?_ | refine And.intro ⟨_, rfl⟩ ?_ | rfl | exact Box.ren_bytes _ _ _ _ | exact Box.ren_vals _ _ _ _ | exact Box.ren_mid rfl)), rfl, rfl⟩
end
end Go.Proofs.Ytjifibloagkeeaa
end
section
namespace Go.Proofs.Ytjifibloagkeeaa
open Go Go.Lg Go.Lg.Fld Go.Lg.Sg Go.Lg.Col
set_option maxRecDepth 100000
theorem tbR_root (t : Tb) : ∀ ρ H, (tbR t).holds ρ H → H ρ.1 ≠ none := fun ρ H h => by
  obtain ⟨m, _, fr, _, _, _, _, _, _, _, h2, _⟩ := h
  rw [h2]; simp
theorem canT {g : Gr} (hk : GrOk g) (s : Nat) : goodT g.sc s (g.rows : Nat) = canG g.sc s := by
  have := hk.rows
  unfold goodT canG
  rw [decide_eq_true hk.sc, decide_eq_true (show (1 : Int) ≤ (g.rows : Nat) by omega), decide_eq_true (show ((g.rows : Nat) : Int) ≤ 256 by omega)]
  simp
abbrev tabs (g : Gr) (ts : List Nat) : List Rsc := ts.map fun s => tbR (tbl g s)
set_option maxHeartbeats 12800000 in
theorem make_body {C : Ctx} {Mid : St → Prop} {X0 Ha : Nat → Option Obj} {c : Code} (hc : Try.f8.body = some c) (g : Gr) (vC : Value) (pad : Option Addr) (pcap mb : Nat) (ps : List Nat) (m : List (Value × Value)) (s : Nat) (hs : s < 4294967296) (hk : GrOk g)
    (hO : OwnedM C X0 Ha) (hA : TArr Ha (.slice pad ps.length pcap) ps) (hI : GrX (joinM X0 Ha) g vC (.slice pad ps.length pcap) mb ps m)
    (hend : ∀ (qs ts : List Nat) (Hn Ha' : Nat → Option Obj) (vT' : Value), makeL g s = g.l ++ ts → OwnedM C X0 Hn → OwnedM C (joinM X0 Hn) Ha' → Refs Hn qs (tabs g ts) → TArr Ha' vT' (ps ++ qs) →
      Leads Try.f8.ntmps C Mid ⟨[(4, Ln .i64 (makeN g s : Nat)), (5, Ln .i64 (makeE g s))], [gS 1000000 g (.val vC) (.val vT') (mV mb)], joinM (joinM X0 Hn) Ha'⟩) :
    LWP Try.prog Try.f8.ntmps C c (exitQ Try.f8.ntmps C Mid) ⟨enumL 0 [Lp 1000000, Ln .u32 (s : Nat)], [gS 1000000 g (.val vC) (vS' pad ps.length pcap) (mV mb)], joinM X0 Ha⟩ := by
  have hlen := hI.len
  have hroom := hk.room
  have harch := hk.archs
  have hstay : makeL g s = g.l → Leads Try.f8.ntmps C Mid ⟨[(4, Ln .i64 (makeN g s : Nat)), (5, Ln .i64 (makeE g s))], [gS 1000000 g (.val vC) (vS' pad ps.length pcap) (mV mb)], joinM X0 Ha⟩ := fun h => by
    have := hend [] [] (fun _ => none) Ha (.slice pad ps.length pcap) (by rw [h, List.append_nil]) (OwnedM.nil _ _) (by rw [joinM_nil]; exact hO) (Refs.nil _) (by rw [List.append_nil]; exact hA)
    rw [joinM_nil] at this
    exact this
  refine LWP.ofBody rfl hc ?_
  cases hf : findG g.l s with
  | some i =>
    obtain ⟨e1, e2, e3⟩ := make_some hf
    rw [e1, e3] at hstay
    have hF : MSpec Try.prog (joinM X0 Ha) 18 [Lp 1000000, Ln .u32 (s : Nat)] [gS 1000000 g (.val vC) (vS' pad ps.length pcap) (mV mb)] (.tup [Sn .i64 (i : Nat), Sb true]) [gS 1000000 g (.val vC) (vS' pad ps.length pcap) (mV mb)] := by
      have := hfind0 _ g vC pad pcap mb ps m hI hk s
      rw [hf] at this; exact this
    (refine LWP.seq <| LWP.region (by kernel_rfl) <| kas rfl <| kas rfl <| RunK.nil <| LWP.seq <| LWP.seq <| LWP.region (by kernel_rfl) <| kmv rfl <| K.ptrNil rfl (by kernel_rfl) (.inl ⟨rfl, rfl⟩) .plain <| RunK.nil <| LWP.condF rfl ?_; refine LWP.skip ?_; refine LWP.seq <| LWP.seq <| LWP.region (by kernel_rfl) <| kmv rfl <| kmv rfl <| K.callR [(1000000, 1000000)] (hF) rfl rfl (by exact (And.intro ⟨_, rfl, rfl⟩ trivial)) (by exact (all_cons_true (all_cons_true rfl (all_cons_true rfl (all_cons_true rfl (all_cons_true rfl (all_cons_true rfl (all_cons_true rfl rfl)))))) rfl)) rfl rfl rfl rfl .plain <| kmv rfl <| kex rfl rfl <| kex rfl rfl <| kas rfl <| kas rfl <| RunK.nil <| LWP.seq <| LWP.region (by kernel_rfl) ?_; refine kmv rfl <| RunK.nil <| LWP.condT rfl ?_; refine LWP.seq <| LWP.region (by kernel_rfl) <| kmv rfl <| kas rfl <| kas rfl <| RunK.nil <| LWP.ret ?_)
    exact Leads.le (Le.of (by exact ⟨rfl, rfl, trivial⟩) (by exact ⟨rfl, trivial⟩) (by exact rfl) (by exact rfl) (by repeat' (first | refine all_cons_true ?_ ?_ | rfl | exact bytes_inUse | exact vals_inUse | exact mid_inUse rfl))) (hstay e2)
  | none =>
    have hF : MSpec Try.prog (joinM X0 Ha) 18 [Lp 1000000, Ln .u32 (s : Nat)] [gS 1000000 g (.val vC) (vS' pad ps.length pcap) (mV mb)] (.tup [Sn .i64 0, Sb false]) [gS 1000000 g (.val vC) (vS' pad ps.length pcap) (mV mb)] := by
      have := hfind0 _ g vC pad pcap mb ps m hI hk s
      rw [hf] at this; exact this
    obtain ⟨cb, cc, hvC, hin⟩ := hI.sc
    have hRm := hroom0 _ g vC pad pcap mb ps m hI hk
    have hT := canT hk s
    subst hvC
    by_cases hc : canG g.sc s = true
    case neg =>
      have e1 : makeE g s = 6 := by unfold makeE; rw [hf, if_neg (by decide), if_neg hc]
      obtain ⟨e2, e3, _⟩ := make_no (g := g) (s := s) (by rw [e1]; decide)
      rw [e1, e3] at hstay
      have hN := tNew_no (joinM X0 Ha) g.sc s (g.rows : Nat) (some ⟨cb, 0, none⟩) cc hin hI.names hI.few hs (by rw [hT]; simpa using hc)
      generalize g.sc.cs.length = nc at *
      (refine LWP.seq <| LWP.region (by kernel_rfl) <| kas rfl <| kas rfl <| RunK.nil <| LWP.seq <| LWP.seq <| LWP.region (by kernel_rfl) <| kmv rfl <| K.ptrNil rfl (by kernel_rfl) (.inl ⟨rfl, rfl⟩) .plain <| RunK.nil <| LWP.condF rfl ?_; refine LWP.skip ?_; refine LWP.seq <| LWP.seq <| LWP.region (by kernel_rfl) <| kmv rfl <| kmv rfl <| K.callR [(1000000, 1000000)] (hF) rfl rfl (by exact (And.intro ⟨_, rfl, rfl⟩ trivial)) (by exact (all_cons_true (all_cons_true rfl (all_cons_true rfl (all_cons_true rfl (all_cons_true rfl (all_cons_true rfl (all_cons_true rfl rfl)))))) rfl)) rfl rfl rfl rfl .plain <| kmv rfl <| kex rfl rfl <| kex rfl rfl <| kas rfl <| kas rfl <| RunK.nil <| LWP.seq <| LWP.region (by kernel_rfl) ?_; refine kmv rfl <| RunK.nil <| LWP.condF rfl ?_; refine LWP.skip ?_; refine LWP.seq <| LWP.draws mixed (by kernel_rfl) <| kmv rfl <| K.nilCheck rfl .plain <| kfa rfl rfl ?_; refine K.loadPart rfl rfl rfl (by exact nl2 rfl rfl rfl) .plain ?_; refine kmv rfl <| kmv rfl <| K.nilCheck rfl .plain <| kfa rfl rfl ?_; refine kl1 rfl rfl rfl <| kca rfl rfl hN <| kas rfl <| RunK.nil <| And.intro (by kernel_rfl) ?_; refine LWP.seq <| LWP.block <| LWP.seq <| LWP.region (by kernel_rfl) <| kmv rfl <| K.nilNil rfl (by kernel_rfl) (.inl ⟨rfl, rfl⟩) .plain <| kas rfl <| RunK.nil <| LWP.condT rfl ?_; refine LWP.seq <| LWP.region (by kernel_rfl) <| kas rfl <| kas rfl <| RunK.nil <| LWP.ret ?_)
      exact Leads.le (Le.of (by exact ⟨rfl, rfl, trivial⟩) (by exact ⟨rfl, trivial⟩) (by exact rfl) (by exact rfl) (by repeat' (first | refine all_cons_true ?_ ?_ | rfl | exact bytes_inUse | exact vals_inUse | exact mid_inUse rfl))) (hstay e2)
    rw [hc] at hT
    have hN := tNew (joinM X0 Ha) g.sc s g.rows (some ⟨cb, 0, none⟩) cc hin hI.names hI.few hs hT
    generalize g.sc.cs.length = nc at *
    by_cases hl : g.archs ≤ g.l.length
    · have e1 : makeE g s = 5 := by unfold makeE; rw [hf, if_neg (by decide), if_pos hc, if_pos hl]
      obtain ⟨e2, e3, _⟩ := make_no (g := g) (s := s) (by rw [e1]; decide)
      rw [e1, e3] at hstay
      rw [show g.archs - g.l.length = 0 by omega] at hRm
      (refine LWP.seq <| LWP.region (by kernel_rfl) <| kas rfl <| kas rfl <| RunK.nil <| LWP.seq <| LWP.seq <| LWP.region (by kernel_rfl) <| kmv rfl <| K.ptrNil rfl (by kernel_rfl) (.inl ⟨rfl, rfl⟩) .plain <| RunK.nil <| LWP.condF rfl ?_; refine LWP.skip ?_; refine LWP.seq <| LWP.seq <| LWP.region (by kernel_rfl) <| kmv rfl <| kmv rfl <| K.callR [(1000000, 1000000)] (hF) rfl rfl (by exact (And.intro ⟨_, rfl, rfl⟩ trivial)) (by exact (all_cons_true (all_cons_true rfl (all_cons_true rfl (all_cons_true rfl (all_cons_true rfl (all_cons_true rfl (all_cons_true rfl rfl)))))) rfl)) rfl rfl rfl rfl .plain <| kmv rfl <| kex rfl rfl <| kex rfl rfl <| kas rfl <| kas rfl <| RunK.nil <| LWP.seq <| LWP.region (by kernel_rfl) ?_; refine kmv rfl <| RunK.nil <| LWP.condF rfl ?_; refine LWP.skip ?_; refine LWP.seq <| LWP.draws mixed (by kernel_rfl) <| kmv rfl <| K.nilCheck rfl .plain <| kfa rfl rfl ?_; refine K.loadPart rfl rfl rfl (by exact nl2 rfl rfl rfl) .plain ?_; refine kmv rfl <| kmv rfl <| K.nilCheck rfl .plain <| kfa rfl rfl ?_; refine kl1 rfl rfl rfl <| K.callMp [(1000001, 601)] (Lp 601) [tB 601 (tbl g s)] (hN) rfl rfl (by exact trivial) rfl rfl rfl rfl rfl (by exact (.box rfl rfl .nil)) .plain <| kas rfl <| RunK.nil <| And.intro (by kernel_rfl) ?_; refine LWP.seq <| LWP.block <| LWP.seq <| LWP.region (by kernel_rfl) <| kmv rfl <| K.ptrNil rfl (by kernel_rfl) (.inl ⟨rfl, rfl⟩) .plain <| kas rfl <| RunK.nil <| LWP.condF rfl ?_; refine LWP.seq <| LWP.region (by kernel_rfl) <| kmv rfl <| K.callR [(1000000, 1000000)] (hRm) rfl rfl (by exact (And.intro ⟨_, rfl, rfl⟩ trivial)) (by exact (all_cons_true (all_cons_true rfl (all_cons_true rfl (all_cons_true rfl (all_cons_true rfl (all_cons_true rfl (all_cons_true rfl rfl)))))) rfl)) rfl rfl rfl rfl .plain <| keq rfl rfl (r := true) rfl <| kas rfl <| RunK.nil <| LWP.condT rfl ?_; refine LWP.seq <| LWP.region (by kernel_rfl) <| kas rfl <| kas rfl <| RunK.nil <| LWP.ret ?_)
      exact Leads.le (Le.of (by exact ⟨rfl, rfl, trivial⟩) (by exact ⟨rfl, trivial⟩) (by exact rfl) (by exact rfl) (by repeat' (first | refine all_cons_true ?_ ?_ | rfl | exact bytes_inUse | exact vals_inUse | exact mid_inUse rfl))) (hstay e2)
    have e1 : makeE g s = 0 := by unfold makeE; rw [hf, if_neg (by decide), if_pos hc, if_neg hl]
    obtain ⟨e2, e3⟩ := make_new hf e1
    rw [e1, e3] at hend
    have hrm0 : (((g.archs - g.l.length : Nat) : Int) == 0) = false := beq_eq_false_iff_ne.2 (by omega)
    generalize g.archs - g.l.length = rm at *
    clear hstay
    rw [← hlen] at hend
    have hadd : IntKind.i64.wrap (((ps.length + 1 : Nat) : Int) - 1) = ((ps.length : Nat) : Int) := by rw [wrap_i64 (by omega)]; omega
    have hfin : ∀ (Ha0 : Nat → Option Obj), OwnedM C X0 Ha0 → Leads Try.f8.ntmps C Mid ⟨[(4, Ln .i64 (ps.length : Nat)), (5, Ln .i64 0)], [(603, some ⟨PT, (pvs ps).map .val ++ .ptr 601 0 :: ([] : List Value).map .val, true⟩), tB 601 (tbl g s), gS 1000000 g (vS' (some ⟨cb, 0, none⟩) nc cc) (.slc 603 0 (ps.length + 1) 1) (mV mb)], joinM X0 Ha0⟩ := fun Ha0 hO0 => by
      refine Leads.fixRsc (k := 601) (s := [(4, Ln .i64 (ps.length : Nat)), (5, Ln .i64 0)]) (bx := [gS 1000000 g (vS' (some ⟨cb, 0, none⟩) nc cc) (.slc 603 0 (ps.length + 1) 1) (mV mb)]) (s0 := []) (b0 := [(603, some ⟨PT, (pvs ps).map .val ++ .ptr 601 0 :: ([] : List Value).map .val, true⟩)]) (by rfl) (by rfl) (by rfl) (by rfl) (by refine all_cons_true ?_ rfl; exact fixIn_mid _ _) fun ρ Hc2 k1 k2 => ?_
      obtain ⟨bn, mn⟩ := ρ
      obtain ⟨q1, q2, q3⟩ := OwnedM.swap hO0 k2
      have hpush := (Refs.nil (fun _ => none)).push k1 (tbR_root _ _ _ k1) fun x hx => rfl
      rw [show joinM (fun _ => none) Hc2 = Hc2 from by funext b; unfold joinM; cases Hc2 b <;> rfl] at hpush
      have hcells : ((pvs ps).map CV.val ++ .ptr 601 0 :: ([] : List Value).map CV.val).map (CV.fix 601 bn) = (pvs (ps ++ [bn])).map CV.val := by
        rw [fix_mid]
        unfold pvs
        simp
      rw [q3]
      refine Leads.le (σ' := ⟨[(4, Ln .i64 (ps.length : Nat)), (5, Ln .i64 0)], [(1000000, some ⟨60, [.val (.int .i64 g.sc.ver), vS' (some ⟨cb, 0, none⟩) nc cc, .val (.int .i64 (g.archs : Nat)), .val (.int .i64 (g.rows : Nat))] ++ .slc 603 0 (ps.length + 1) 1 :: [mV mb], false⟩), (603, some ⟨PT, (pvs (ps ++ [bn])).map .val, true⟩)], joinM (joinM X0 Hc2) Ha0⟩) (by
        show Le _ _ (⟨[] ++ _, [(603, some ⟨_, ((pvs ps).map CV.val ++ .ptr 601 0 :: ([] : List Value).map CV.val).map (CV.fix 601 bn), true⟩)] ++ _, _⟩ : St) _
        rw [hcells]
        exact Le.of (by exact ⟨rfl, rfl, trivial⟩) (by exact ⟨rfl, rfl, trivial⟩) (by exact rfl) (by exact rfl) (by repeat' (first | refine all_cons_true ?_ ?_ | rfl | exact bytes_inUse | exact vals_inUse | exact mid_inUse rfl))) ?_
      refine Leads.closeCell q2 (by rw [pvs_len, List.length_append]; simp only [List.length_singleton]; omega) rfl rfl rfl rfl rfl rfl fun ba oa va _ _ hOa hva => ?_
      exact hend [bn] [s] Hc2 _ va e2 q1 hOa hpush (.inr ⟨ba, hva⟩)
    (refine LWP.seq <| LWP.region (by kernel_rfl) <| kas rfl <| kas rfl <| RunK.nil <| LWP.seq <| LWP.seq <| LWP.region (by kernel_rfl) <| kmv rfl <| K.ptrNil rfl (by kernel_rfl) (.inl ⟨rfl, rfl⟩) .plain <| RunK.nil <| LWP.condF rfl ?_; refine LWP.skip ?_; refine LWP.seq <| LWP.seq <| LWP.region (by kernel_rfl) <| kmv rfl <| kmv rfl <| K.callR [(1000000, 1000000)] (hF) rfl rfl (by exact (And.intro ⟨_, rfl, rfl⟩ trivial)) (by exact (all_cons_true (all_cons_true rfl (all_cons_true rfl (all_cons_true rfl (all_cons_true rfl (all_cons_true rfl (all_cons_true rfl rfl)))))) rfl)) rfl rfl rfl rfl .plain <| kmv rfl <| kex rfl rfl <| kex rfl rfl <| kas rfl <| kas rfl <| RunK.nil <| LWP.seq <| LWP.region (by kernel_rfl) ?_; refine kmv rfl <| RunK.nil <| LWP.condF rfl ?_; refine LWP.skip ?_; refine LWP.seq <| LWP.draws mixed (by kernel_rfl) <| kmv rfl <| K.nilCheck rfl .plain <| kfa rfl rfl ?_; refine K.loadPart rfl rfl rfl (by exact nl2 rfl rfl rfl) .plain ?_; refine kmv rfl <| kmv rfl <| K.nilCheck rfl .plain <| kfa rfl rfl ?_; refine kl1 rfl rfl rfl <| K.callMp [(1000001, 601)] (Lp 601) [tB 601 (tbl g s)] (hN) rfl rfl (by exact trivial) rfl rfl rfl rfl rfl (by exact (.box rfl rfl .nil)) .plain <| kas rfl <| RunK.nil <| And.intro (by kernel_rfl) ?_; refine LWP.seq <| LWP.block <| LWP.seq <| LWP.region (by kernel_rfl) <| kmv rfl <| K.ptrNil rfl (by kernel_rfl) (.inl ⟨rfl, rfl⟩) .plain <| kas rfl <| RunK.nil <| LWP.condF rfl ?_; refine LWP.seq <| LWP.region (by kernel_rfl) <| kmv rfl <| K.callR [(1000000, 1000000)] (hRm) rfl rfl (by exact (And.intro ⟨_, rfl, rfl⟩ trivial)) (by exact (all_cons_true (all_cons_true rfl (all_cons_true rfl (all_cons_true rfl (all_cons_true rfl (all_cons_true rfl (all_cons_true rfl rfl)))))) rfl)) rfl rfl rfl rfl .plain <| keq rfl rfl (r := false) hrm0 <| kas rfl <| RunK.nil <| LWP.condF rfl ?_; refine LWP.skip ?_; refine LWP.seq ?_)
    rcases hA with ⟨hv, rfl⟩ | ⟨db, hd⟩
    · cases hv
      refine LWP.le (σ' := ⟨[(0, Lp 1000000), (8, Lp 601)], [gS 1000000 g (vS' (some ⟨cb, 0, none⟩) nc cc) (vS' none 0 0) (mV mb), tB 601 (tbl g s)], joinM X0 Ha⟩) (Le.of (by exact ⟨rfl, rfl, trivial⟩) (by exact ⟨rfl, rfl, trivial⟩) (by exact rfl) (by exact rfl) (by repeat' (first | refine all_cons_true ?_ ?_ | rfl | exact bytes_inUse | exact vals_inUse | exact mid_inUse rfl))) ?_
      (refine LWP.region (by kernel_rfl) <| kmv rfl <| kmv rfl <| K.nilCheck rfl .plain <| kfa rfl rfl ?_; refine kl1 rfl rfl rfl <| kmv rfl <| K.buildSlc (zs := [.pointer none]) (sz := 1) (e := PT) (cs' := [.ptr 601 0]) (by kernel_rfl) rfl rfl rfl rfl rfl rfl .plain <| K.appendNil (by_ := 8) (e := PT) (e2 := PT) (l2 := [.ptr 601 0]) rfl rfl rfl (Nat.le_refl _) rfl rfl (by decide) (by kernel_rfl) (by kernel_rfl) (by omega) (by omega) rfl .plain ?_; refine K.nilCheck rfl .plain <| kfa rfl rfl ?_; refine K.storeOne rfl rfl rfl rfl rfl (nl6 rfl rfl rfl rfl rfl rfl rfl) .plain <| RunK.nil <| LWP.seq <| LWP.region (by kernel_rfl) <| kmv rfl <| K.nilCheck rfl .plain <| kfa rfl rfl ?_; refine kl1 rfl rfl rfl <| K.lenSlc rfl SliceT.h rfl .plain ?_; refine K.sub rfl rfl (wrap_i64 (by omega)) .plain <| kas rfl <| kas rfl <| RunK.nil <| LWP.ret ?_)
      exact Leads.le (σ' := ⟨[(4, Ln .i64 (([] : List Nat).length : Nat)), (5, Ln .i64 0)], [(603, some ⟨PT, (pvs []).map .val ++ .ptr 601 0 :: ([] : List Value).map .val, true⟩), tB 601 (tbl g s), gS 1000000 g (vS' (some ⟨cb, 0, none⟩) nc cc) (.slc 603 0 (([] : List Nat).length + 1) 1) (mV mb)], joinM X0 Ha⟩) (Le.ofR [(603, 43)] (by exact ⟨rfl, rfl, trivial⟩) (by repeat' (first | exact trivial | refine And.intro ⟨_, rfl, ?_⟩ ?_ | refine And.intro ⟨_, rfl⟩ ?_ | rfl | exact Box.ren_bytes _ _ _ _ | exact Box.ren_vals _ _ _ _ | exact Box.ren_mid rfl)) (by exact rfl) (by exact rfl) (by repeat' (first | refine all_cons_true ?_ ?_ | rfl | exact bytes_inUse | exact vals_inUse | exact mid_inUse rfl)) (by exact rfl) (by exact rfl)) (hfin Ha hO)
    · have hel : (pvs ps).length = ps.length * 1 := by rw [pvs_len]; omega
      have hcl1 : ((pvs ps).map CV.val).length = ps.length * 1 := by rw [List.length_map]; exact hel
      refine LWP.le (σ' := ⟨[(0, Lp 1000000), (8, Lp 601)], [(1000000, some ⟨60, [.val (.int .i64 g.sc.ver), vS' (some ⟨cb, 0, none⟩) nc cc, .val (.int .i64 (g.archs : Nat)), .val (.int .i64 (g.rows : Nat))] ++ vS' pad ps.length pcap :: [mV mb], false⟩), tB 601 (tbl g s)], joinM X0 Ha⟩) (Le.of (by exact ⟨rfl, rfl, trivial⟩) (by exact ⟨rfl, rfl, trivial⟩) (by exact rfl) (by exact rfl) (by repeat' (first | refine all_cons_true ?_ ?_ | rfl | exact bytes_inUse | exact vals_inUse | exact mid_inUse rfl))) ?_
      refine LWP.openCell (A := [.val (.int .i64 g.sc.ver), vS' (some ⟨cb, 0, none⟩) nc cc, .val (.int .i64 (g.archs : Nat)), .val (.int .i64 (g.rows : Nat))]) (B := [mV mb]) (k := 602) (sz := 1) (len := ps.length) hO hd hel (by omega) rfl (by repeat' (first | refine all_cons_true ?_ ?_ | rfl | exact vals_inUse)) rfl rfl rfl ?_
      (refine LWP.region (by kernel_rfl) <| kmv rfl <| kmv rfl <| K.nilCheck rfl .plain <| kfa rfl rfl ?_; refine kl1 rfl rfl rfl <| kmv rfl <| K.buildSlc (zs := [.pointer none]) (sz := 1) (e := PT) (cs' := [.ptr 601 0]) (by kernel_rfl) rfl rfl rfl rfl rfl rfl .plain <| K.appendSlc (by_ := 8) (e2 := PT) (l2 := [.ptr 601 0]) (nl := ps.length + 1) (nc := (pvs ps).map .val ++ [.ptr 601 0]) rfl rfl hcl1 rfl rfl (Nat.le_refl _) rfl rfl (by kernel_rfl) (by kernel_rfl) (by omega) (by omega) rfl rfl rfl .plain <| K.nilCheck rfl .plain <| kfa rfl rfl ?_; refine K.storeOne rfl rfl rfl rfl rfl (nl6 rfl rfl rfl rfl rfl rfl rfl) .plain <| RunK.nil <| LWP.seq <| LWP.region (by kernel_rfl) <| kmv rfl <| K.nilCheck rfl .plain <| kfa rfl rfl ?_; refine kl1 rfl rfl rfl <| K.lenSlc rfl SliceT.h rfl .plain ?_; refine K.sub rfl rfl hadd .plain <| kas rfl <| kas rfl <| RunK.nil <| LWP.ret ?_)
      exact Leads.le (σ' := ⟨[(4, Ln .i64 (ps.length : Nat)), (5, Ln .i64 0)], [(603, some ⟨PT, (pvs ps).map .val ++ .ptr 601 0 :: ([] : List Value).map .val, true⟩), tB 601 (tbl g s), gS 1000000 g (vS' (some ⟨cb, 0, none⟩) nc cc) (.slc 603 0 (ps.length + 1) 1) (mV mb)], joinM X0 (cutM Ha db)⟩) (Le.ofR [(603, 43)] (by exact ⟨rfl, rfl, trivial⟩) (by repeat' (first | exact trivial | refine And.intro ⟨_, rfl, ?_⟩ ?_ | refine And.intro ⟨_, rfl⟩ ?_ | rfl | exact Box.ren_bytes _ _ _ _ | exact Box.ren_vals _ _ _ _ | exact Box.ren_mid rfl)) (by exact rfl) (by exact rfl) (by repeat' (first | refine all_cons_true ?_ ?_ | rfl | exact bytes_inUse | exact vals_inUse | exact mid_inUse rfl)) (by exact rfl) (by exact rfl)) (hfin _ (hO.cut db))
end Go.Proofs.Ytjifibloagkeeaa
end
