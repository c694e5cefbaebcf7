/- A piece of a proof over this program: contracts of its functions, and a logic to prove them by. -/
import Derived.Test.YtbpdbclndfmcgaaGreatDoorQ3
import Derived.Test.YtbpdbclndfmcgaaGreatDoorQ4
import Derived.Test.YtbpdbclndfmcgaaGreatDoorQ5
import Derived.Laws.BitsAllLaws
import Derived.Lib.Join
import Derived.Lib.IndexLaws
import Derived.Lib.AppendZerosOnto
section
namespace Go.Proofs.YtbpdbclndfmcgaaGreatDoor
open Go Go.Lg Go.Lg.Col
set_option maxRecDepth 100000
variable (X : Nat → Option Obj)
theorem seek_ok (z q m : Nat) (v : Value) (i : Nat) (h : i < m) : MSpec Tryz.prog X 86 [Lp 1000000, Ln .i64 (i : Nat)] [sB 1000000 z q m (.val v)] (Ln .i64 0) [sB 1000000 z q m (.val v)] := by
  refine MSpec.intro Tryz.func86 rfl (by kernel_rfl) rfl rfl (by exact (by repeat' (first | refine all_cons_true ?_ ?_ | rfl | exact bytes_inUse | exact vals_inUse | exact mid_inUse rfl))) rfl rfl ?_
  intro C
  (refine LWP.seq <| rgN <| kas rfl <| RunK.nil <| LWP.seq <| LWP.seq <| rgN <| kmv rfl <| K.ptrNil rfl (by kernel_rfl) (.inl ⟨rfl, rfl⟩) .plain <| RunK.nil <| LWP.condF rfl ?_; refine LWP.skip ?_; refine LWP.seq <| LWP.seq <| rgN <| kmv rfl <| klt rfl rfl (decide_eq_false (by omega)) <| kmv rfl <| gmv rfl rfl rfl <| gmv rfl rfl rfl <| K.nilCheck rfl (.taken rfl rfl) ?_; refine K.fieldAddr rfl rfl (.taken rfl rfl) ?_; refine K.loadOne rfl rfl rfl (.taken rfl rfl) ?_; refine K.geq rfl rfl (decide_eq_false (by omega)) (.taken rfl rfl) ?_; refine kpf rfl rfl <| RunK.nil <| LWP.condF rfl ?_; refine LWP.skip ?_; refine LWP.seq <| rgN <| kas rfl <| RunK.nil <| LWP.ret ?_)
  exact ⟨[], ⟨[_], ⟨rfl, trivial⟩, rfl⟩, (by repeat' (first | exact trivial | refine And.intro ⟨_, rfl, ?_⟩ ?_ | refine And.intro ⟨_, rfl⟩ ?_ | rfl | exact Box.ren_bytes _ _ _ _ | exact Box.ren_vals _ _ _ _ | exact Box.ren_mid rfl)), rfl, rfl⟩
theorem h0_of {p z cl : Nat} (i : Nat) (hp : i % 16 * z = p) (h : p + z ≤ cl) : p < cl ∨ p = 0 := by
  rcases Nat.eq_zero_or_pos z with h0 | h0
  · right; rw [← hp, h0, Nat.mul_zero]
  · left; omega
theorem at_X (z q m i : Nat) {db nc ccap b cl cap : Nat} {arr : Array Value} {fr : Nat × Nat} (hz : z ≤ 256) (hi : i < 65536) (hin : i / 16 < nc) (hX : X db = some (.cells arr 151 fr)) (hc : arr[i / 16]? = some (.slice (some ⟨b, 0, none⟩) cl cap)) (hlen : i % 16 * z + z ≤ cl) (hcap : cl ≤ cap) :
    MSpec Tryz.prog X 85 [Lp 1000000, Ln .i64 (i : Nat)] [sB 1000000 z q m (.val (.slice (some ⟨db, 0, none⟩) nc ccap))] (.sv (.one (.val (.slice (some ⟨b, i % 16 * z, none⟩) z (cap - i % 16 * z)))))
      [sB 1000000 z q m (.val (.slice (some ⟨db, 0, none⟩) nc ccap))] := by
  refine MSpec.intro Tryz.func85 rfl (by kernel_rfl) rfl rfl (by exact (by repeat' (first | refine all_cons_true ?_ ?_ | rfl | exact bytes_inUse | exact vals_inUse | exact mid_inUse rfl))) rfl rfl ?_
  intro C
  have h1 : ((i : Nat) : Int).tmod 16 = ((i % 16 : Nat) : Int) := by rw [Int.tmod_eq_emod_of_nonneg (by omega)]; omega
  have h16 : i % 16 * z ≤ 15 * 256 := Nat.mul_le_mul (by omega) hz
  have h2 : IntKind.i64.wrap (((i % 16 : Nat) : Int) * (z : Nat)) = ((i % 16 * z : Nat) : Int) := by rw [← Int.natCast_mul, wrap_i64 (by omega)]
  have h3 : IntKind.i64.wrap (((i : Nat) : Int).tdiv 16) = ((i / 16 : Nat) : Int) := by rw [quo_i64 (by omega) (by omega)]; omega
  have h4 : IntKind.i64.wrap (((i % 16 * z : Nat) : Int) + (z : Nat)) = ((i % 16 * z + z : Nat) : Int) := by rw [wrap_i64 (by omega)]; omega
  have hix : 0 + Int.toNat ((i / 16 : Nat) : Int) * 1 = i / 16 := by rw [Int.toNat_natCast]; omega
  have h0 := h0_of (cl := cl) i rfl hlen
  generalize hp : i % 16 * z = p at *
  (refine LWP.seq <| rgN <| kas rfl <| RunK.nil <| LWP.seq <| rgN <| kmv rfl <| K.rem rfl rfl (by decide) h1 .plain <| kmv rfl <| K.nilCheck rfl .plain <| kfa rfl rfl ?_; refine kl1 rfl rfl rfl <| K.mul rfl rfl h2 .plain <| kas rfl <| RunK.nil <| LWP.seq <| rgD mixed <| kmv rfl <| K.nilCheck rfl .plain <| kfa rfl rfl ?_; refine kl1 rfl rfl rfl <| kmv rfl <| K.quo rfl rfl (by decide) h3 .plain <| K.indexX rfl rfl SliceT.h (by omega) hix .plain <| K.loadX rfl hX rfl hc .plain <| kmv rfl <| kmv rfl <| kmv rfl <| K.nilCheck rfl .plain <| kfa rfl rfl ?_; refine kl1 rfl rfl rfl <| kad rfl rfl h4 <| K.cut2X (sz := 1) (l := p) (h := p + z) (off' := p) (len' := z) (cap' := cap - p) rfl rfl rfl (by kernel_rfl) (by omega) (by omega) h0 hcap (by omega) (by omega) rfl .plain ?_; refine kas rfl <| RunK.nil <| rgA ?_; refine LWP.ret ?_)
  exact ⟨[], ⟨[_], ⟨rfl, trivial⟩, rfl⟩, (by repeat' (first | exact trivial | refine And.intro ⟨_, rfl, ?_⟩ ?_ | refine And.intro ⟨_, rfl⟩ ?_ | rfl | exact Box.ren_bytes _ _ _ _ | exact Box.ren_vals _ _ _ _ | exact Box.ren_mid rfl)), rfl, rfl⟩
theorem at_B (z q m : Nat) (l : List UInt8) (i : Nat) (nc cl : Nat) (A B : List Value) (r1 r2 : Bool) (hz : z ≤ 256) (hi : i < 65536) (hA : A.length = i / 16) (hin : i / 16 < nc) (hlen : i % 16 * z + z ≤ cl) :
    MSpec Tryz.prog X 85 [Lp 1000000, Ln .i64 (i : Nat)] [sB 1000000 z q m (.slc 1000001 0 nc), (1000001, some ⟨151, A.map .val ++ .slc 1000002 0 cl :: B.map .val, r1⟩), (1000002, some ⟨5, l.map bc, r2⟩)] (.sv (.one (.slc 1000002 (i % 16 * z) z)))
      [sB 1000000 z q m (.slc 1000001 0 nc), (1000001, some ⟨151, A.map .val ++ .slc 1000002 0 cl :: B.map .val, r1⟩), (1000002, some ⟨5, l.map bc, r2⟩)] := by
  refine MSpec.intro Tryz.func85 rfl (by kernel_rfl) rfl rfl (by exact (by repeat' (first | refine all_cons_true ?_ ?_ | rfl | exact bytes_inUse | exact vals_inUse | exact mid_inUse rfl))) rfl rfl ?_
  intro C
  have h1 : ((i : Nat) : Int).tmod 16 = ((i % 16 : Nat) : Int) := by rw [Int.tmod_eq_emod_of_nonneg (by omega)]; omega
  have h16 : i % 16 * z ≤ 15 * 256 := Nat.mul_le_mul (by omega) hz
  have h2 : IntKind.i64.wrap (((i % 16 : Nat) : Int) * (z : Nat)) = ((i % 16 * z : Nat) : Int) := by rw [← Int.natCast_mul, wrap_i64 (by omega)]
  have h3 : IntKind.i64.wrap (((i : Nat) : Int).tdiv 16) = ((i / 16 : Nat) : Int) := by rw [quo_i64 (by omega) (by omega)]; omega
  have h4 : IntKind.i64.wrap (((i % 16 * z : Nat) : Int) + (z : Nat)) = ((i % 16 * z + z : Nat) : Int) := by rw [wrap_i64 (by omega)]; omega
  have hix : 0 + Int.toNat ((i / 16 : Nat) : Int) * 1 = i / 16 := by rw [Int.toNat_natCast]; omega
  have hcell : (A.map CV.val ++ .slc 1000002 0 cl :: B.map CV.val)[i / 16]? = some (.slc 1000002 0 cl) := mid_get (by rw [List.length_map]; exact hA)
  have h0 := h0_of (cl := cl) i rfl hlen
  generalize hp : i % 16 * z = p at *
  (refine LWP.seq <| rgN <| kas rfl <| RunK.nil <| LWP.seq <| rgN <| kmv rfl <| K.rem rfl rfl (by decide) h1 .plain <| kmv rfl <| K.nilCheck rfl .plain <| kfa rfl rfl ?_; refine kl1 rfl rfl rfl <| K.mul rfl rfl h2 .plain <| kas rfl <| RunK.nil <| LWP.seq <| rgD mixed <| kmv rfl <| K.nilCheck rfl .plain <| kfa rfl rfl ?_; refine kl1 rfl rfl rfl <| kmv rfl <| K.quo rfl rfl (by decide) h3 .plain <| K.indexSlc rfl rfl (by omega) hix .plain ?_; refine kl1 rfl rfl hcell <| kmv rfl <| kmv rfl <| kmv rfl <| K.nilCheck rfl .plain <| kfa rfl rfl ?_; refine kl1 rfl rfl rfl <| kad rfl rfl h4 <| K.cut2Slc (l := p) (h := p + z) (off' := p) (len' := z) rfl rfl rfl (by kernel_rfl) (by omega) (by omega) h0 (by omega) (by omega) .plain ?_; refine kas rfl <| RunK.nil <| rgA ?_; refine LWP.ret ?_)
  exact ⟨[], ⟨[_], ⟨rfl, trivial⟩, rfl⟩, (by repeat' (first | exact trivial | refine And.intro ⟨_, rfl, ?_⟩ ?_ | refine And.intro ⟨_, rfl⟩ ?_ | rfl | exact Box.ren_bytes _ _ _ _ | exact Box.ren_vals _ _ _ _ | exact Box.ren_mid rfl)), rfl, rfl⟩
theorem at_V (z q m : Nat) (l : List UInt8) (i : Nat) (nc cl cl2 b cap : Nat) (A B : List Value) (r1 r2 : Bool) (hz : z ≤ 256) (hi : i < 65536) (hin : i / 16 < nc) (hlen : i % 16 * z + z ≤ cl) (hcap : cl ≤ cap) (hcell : (A.map CV.val ++ .slc 1000002 0 cl2 :: B.map CV.val)[i / 16]? = some (.val (.slice (some ⟨b, 0, none⟩) cl cap))) :
    MSpec Tryz.prog X 85 [Lp 1000000, Ln .i64 (i : Nat)] [sB 1000000 z q m (.slc 1000001 0 nc), (1000001, some ⟨151, A.map .val ++ .slc 1000002 0 cl2 :: B.map .val, r1⟩), (1000002, some ⟨5, l.map bc, r2⟩)] (.sv (.one (.val (.slice (some ⟨b, i % 16 * z, none⟩) z (cap - i % 16 * z)))))
      [sB 1000000 z q m (.slc 1000001 0 nc), (1000001, some ⟨151, A.map .val ++ .slc 1000002 0 cl2 :: B.map .val, r1⟩), (1000002, some ⟨5, l.map bc, r2⟩)] := by
  refine MSpec.intro Tryz.func85 rfl (by kernel_rfl) rfl rfl (by exact (by repeat' (first | refine all_cons_true ?_ ?_ | rfl | exact bytes_inUse | exact vals_inUse | exact mid_inUse rfl))) rfl rfl ?_
  intro C
  have h1 : ((i : Nat) : Int).tmod 16 = ((i % 16 : Nat) : Int) := by rw [Int.tmod_eq_emod_of_nonneg (by omega)]; omega
  have h16 : i % 16 * z ≤ 15 * 256 := Nat.mul_le_mul (by omega) hz
  have h2 : IntKind.i64.wrap (((i % 16 : Nat) : Int) * (z : Nat)) = ((i % 16 * z : Nat) : Int) := by rw [← Int.natCast_mul, wrap_i64 (by omega)]
  have h3 : IntKind.i64.wrap (((i : Nat) : Int).tdiv 16) = ((i / 16 : Nat) : Int) := by rw [quo_i64 (by omega) (by omega)]; omega
  have h4 : IntKind.i64.wrap (((i % 16 * z : Nat) : Int) + (z : Nat)) = ((i % 16 * z + z : Nat) : Int) := by rw [wrap_i64 (by omega)]; omega
  have hix : 0 + Int.toNat ((i / 16 : Nat) : Int) * 1 = i / 16 := by rw [Int.toNat_natCast]; omega
  have h0 := h0_of (cl := cl) i rfl hlen
  generalize hp : i % 16 * z = p at *
  (refine LWP.seq <| rgN <| kas rfl <| RunK.nil <| LWP.seq <| rgN <| kmv rfl <| K.rem rfl rfl (by decide) h1 .plain <| kmv rfl <| K.nilCheck rfl .plain <| kfa rfl rfl ?_; refine kl1 rfl rfl rfl <| K.mul rfl rfl h2 .plain <| kas rfl <| RunK.nil <| LWP.seq <| rgD mixed <| kmv rfl <| K.nilCheck rfl .plain <| kfa rfl rfl ?_; refine kl1 rfl rfl rfl <| kmv rfl <| K.quo rfl rfl (by decide) h3 .plain <| K.indexSlc rfl rfl (by omega) hix .plain ?_; refine kl1 rfl rfl hcell <| kmv rfl <| kmv rfl <| kmv rfl <| K.nilCheck rfl .plain <| kfa rfl rfl ?_; refine kl1 rfl rfl rfl <| kad rfl rfl h4 <| K.cut2X (sz := 1) (l := p) (h := p + z) (off' := p) (len' := z) (cap' := cap - p) rfl rfl rfl (by kernel_rfl) (by omega) (by omega) h0 hcap (by omega) (by omega) rfl .plain ?_; refine kas rfl <| RunK.nil <| rgA ?_; refine LWP.ret ?_)
  exact ⟨[], ⟨[_], ⟨rfl, trivial⟩, rfl⟩, (by repeat' (first | exact trivial | refine And.intro ⟨_, rfl, ?_⟩ ?_ | refine And.intro ⟨_, rfl⟩ ?_ | rfl | exact Box.ren_bytes _ _ _ _ | exact Box.ren_vals _ _ _ _ | exact Box.ren_mid rfl)), rfl, rfl⟩
theorem cNew_ok (size cap : Nat) (hs : size ≤ 256) (h1 : 1 ≤ cap) (hc : cap ≤ 65536) : MSpec Tryz.prog X 40 [Ln .i64 (size : Nat), Ln .i64 (cap : Nat)] [] (Lp 1000001) [cB 1000001 size cap []] := by
  refine MSpec.intro Tryz.func40 rfl (by kernel_rfl) rfl rfl (by exact (by repeat' (first | refine all_cons_true ?_ ?_ | rfl | exact bytes_inUse | exact vals_inUse | exact mid_inUse rfl))) rfl rfl ?_
  intro C
  refine LWP.ends ?_
  (refine LWP.seq <| rgN <| kas rfl <| RunK.nil <| LWP.seq <| LWP.seq <| rgN <| kmv rfl <| klt rfl rfl (decide_eq_false (by omega)) <| kmv rfl <| gmv rfl rfl rfl <| K.gtr rfl rfl (decide_eq_false (by omega)) (.taken rfl rfl) ?_; refine kpf rfl rfl <| kmv rfl <| gmv rfl rfl rfl <| K.lss rfl rfl (decide_eq_false (by omega)) (.taken rfl rfl) ?_; refine kpf rfl rfl <| kmv rfl <| gmv rfl rfl rfl <| K.gtr rfl rfl (decide_eq_false (by omega)) (.taken rfl rfl) ?_; refine kpf rfl rfl <| RunK.nil <| LWP.condF rfl ?_; refine LWP.skip ?_; refine LWP.seq <| rgN <| kmv rfl <| kmv rfl <| K.build rfl rfl (by exact rfl) (by exact nl4 rfl rfl rfl rfl rfl) .plain ?_; refine K.box rfl rfl rfl .plain <| kas rfl <| RunK.nil <| LWP.ret ?_)
  refine Leads.le (σ' := ⟨[(4, Lp 22)], [sB 22 size cap ([] : List (List UInt8)).length (.val (.slice none 0 0))], joinM X (fun _ => none)⟩) (by rw [joinM_nil]; exact Le.of (by exact ⟨rfl, trivial⟩) (by exact ⟨rfl, trivial⟩) (by exact rfl) (by exact rfl) (by repeat' (first | refine all_cons_true ?_ ?_ | rfl | exact bytes_inUse | exact vals_inUse | exact mid_inUse rfl))) ?_
  refine col_shut (cells := []) (B := []) (OwnedM.nil C X) ⟨Grid.empty _ _ _, Packed.nil ⟨hs, hc⟩⟩ (Leads.done ?_)
  exact ⟨[(1000001, 22)], ⟨[_], ⟨rfl, trivial⟩, rfl⟩, (by repeat' (first | exact trivial | refine And.intro ⟨_, rfl, ?_⟩ ?_ | refine And.intro ⟨_, rfl⟩ ?_ | rfl | exact Box.ren_bytes _ _ _ _ | exact Box.ren_vals _ _ _ _ | exact Box.ren_mid rfl)), rfl, rfl⟩
set_option maxHeartbeats 1600000 in
theorem cGet_ok (size cap : Nat) (L : List (List UInt8)) (i : Nat) (l : List UInt8) (h : L[i]? = some l) :
    MSpec Tryz.prog X 52 [Lp 1000000, Ln .i64 (i : Nat)] [cB 1000000 size cap L] (.tup [Ss l, Sn .i64 0]) [cB 1000000 size cap L] := by
  refine MSpec.intro Tryz.func52 rfl (by kernel_rfl) rfl rfl (by exact (by repeat' (first | refine all_cons_true ?_ ?_ | rfl | exact bytes_inUse | exact vals_inUse | exact mid_inUse rfl))) rfl rfl ?_
  intro C
  have hi := (List.getElem?_eq_some_iff.1 h).1
  refine LWP.ends (col_open fun H v cells B hO hI => ?_)
  have hs := seek_ok (joinM X H) size cap L.length v i hi
  have hp := hI.pk.chunk hi
  have hfit := place_fit i size
  have hsm := hI.pk.small
  have hq := hI.pk.fit
  obtain ⟨db, ccap, arr, fr, b, cap2, arr2, fr2, sp, rfl, h1, h2, h3, h4, h5⟩ := hI.place hp
  obtain ⟨h6, h7⟩ := chunk_read (p := i % 16 * size) (z := size) h5 (by rw [hI.pk.len_at hp]; exact hfit)
  have hat := at_X (joinM X H) size cap L.length i (ccap := ccap) hsm.1 (by omega) hp (joinM_in h1) h2 hfit h3
  have hl : (arr2.toList.drop (i % 16 * size)).take size = l.map fun c => Value.int .u8 (c.toNat : Nat) := by
    rw [h7]
    have := hI.pk.row i l h
    unfold rowOf at this
    rw [this]; rfl
  have hX2 := joinM_in (X := X) h4
  generalize i % 16 * size = p at *
  (refine LWP.seq <| rgN <| kas rfl <| kas rfl <| RunK.nil <| LWP.seq <| LWP.seq <| rgN <| kmv rfl <| kmv rfl <| K.callR [(1000000, 1000000)] (hs) rfl rfl (by exact (And.intro ⟨_, rfl, rfl⟩ trivial)) (by exact (all_cons_true (all_cons_true rfl (all_cons_true rfl (all_cons_true rfl (all_cons_true rfl rfl)))) rfl)) rfl rfl rfl rfl .plain <| kas rfl <| RunK.nil <| LWP.seq ?_; refine rgN <| kmv rfl <| kne rfl rfl ((bne_eq_false_iff_eq.2 (by omega))) <| RunK.nil <| LWP.condF rfl ?_; refine LWP.skip ?_; refine LWP.seq <| rgN <| kmv rfl <| kmv rfl <| K.callR [(1000000, 1000000)] (hat) rfl rfl (by exact (And.intro ⟨_, rfl, rfl⟩ trivial)) (by exact (all_cons_true (all_cons_true rfl (all_cons_true rfl (all_cons_true rfl (all_cons_true rfl rfl)))) rfl)) rfl rfl rfl rfl .plain <| K.convStrX (l := l) rfl hX2 (by kernel_rfl) StrT.u h6 hl .plain ?_; refine kas rfl <| kas rfl <| RunK.nil <| LWP.ret ?_)
  refine col_shut hO hI (Leads.done ?_)
  exact ⟨[], ⟨[_, _], ⟨rfl, rfl, trivial⟩, rfl⟩, (by repeat' (first | exact trivial | refine And.intro ⟨_, rfl, ?_⟩ ?_ | refine And.intro ⟨_, rfl⟩ ?_ | rfl | exact Box.ren_bytes _ _ _ _ | exact Box.ren_vals _ _ _ _ | exact Box.ren_mid rfl)), rfl, rfl⟩
end Go.Proofs.YtbpdbclndfmcgaaGreatDoor
end
section
namespace Go.Lg.Col
open Go Go.Lg
def appE (size cap n : Nat) (row : List UInt8) : Int := if row.length ≠ size then 4 else if cap ≤ n then 5 else 0
theorem appE_ok {size cap n : Nat} {row : List UInt8} (h : appE size cap n row = 0) : row.length = size ∧ n < cap := by
  unfold appE at h
  split at h
  · omega
  · split at h <;> omega
theorem splice_bc (ch : List UInt8) (p : Nat) (row : List UInt8) : splice (ch.map bc) p (row.map bc) = (splice ch p row).map bc := by unfold splice; simp
end Go.Lg.Col
namespace Go.Proofs.YtbpdbclndfmcgaaGreatDoor
open Go Go.Lg Go.Lg.Col
set_option maxRecDepth 100000
variable (X : Nat → Option Obj)
set_option maxHeartbeats 3200000 in
theorem cAppend_in (size cap : Nat) (L : List (List UInt8)) (row : List UInt8) (h : row.length = size) (hn : L.length < cap) (h16 : L.length % 16 ≠ 0) :
    MSpec Tryz.prog X 47 [Lp 1000000, Ls row] [cB 1000000 size cap L] (Ln .i64 0) [cB 1000000 size cap (L ++ [row])] := by
  refine MSpec.intro Tryz.func47 rfl (by kernel_rfl) rfl rfl (by exact (by repeat' (first | refine all_cons_true ?_ ?_ | rfl | exact bytes_inUse | exact vals_inUse | exact mid_inUse rfl))) rfl rfl ?_
  intro C
  refine LWP.ends (col_open fun H v cells B hO hI => ?_)
  have hnb := hI.pk.nb
  have hp : L.length / 16 < B.length := by omega
  have hfit := place_fit L.length size
  have hsm := hI.pk.small
  have hcl := hI.len
  have hbl := hI.pk.len_at hp
  have hne : (((row.length : Nat) : Int) != (size : Nat)) = false := by rw [bne_eq_false_iff_eq, h]
  have hmul : IntKind.i64.wrap (((B.length : Nat) : Int) * 16) = ((B.length * 16 : Nat) : Int) := by rw [wrap_i64 (by omega)]; omega
  have heq : (((L.length : Nat) : Int) == ((B.length * 16 : Nat) : Int)) = false := by rw [beq_eq_false_iff_ne]; omega
  have hadd : IntKind.i64.wrap (((L.length : Nat) : Int) + 1) = ((L.length + 1 : Nat) : Int) := by rw [wrap_i64 (by omega)]; omega
  have hsub : IntKind.i64.wrap (((L.length + 1 : Nat) : Int) - 1) = ((L.length : Nat) : Int) := by rw [wrap_i64 (by omega)]; omega
  obtain ⟨ad, ccap, hv⟩ := hI.slice
  rw [hv]
  (refine LWP.seq <| rgN <| kas rfl <| RunK.nil <| LWP.seq <| LWP.block <| LWP.seq <| rgN <| kmv rfl <| K.ptrNil rfl (by kernel_rfl) (.inl ⟨rfl, rfl⟩) .plain <| kas rfl <| RunK.nil <| LWP.condF rfl ?_; refine LWP.seq <| rgN <| kmv rfl <| kln rfl <| kmv rfl <| K.nilCheck rfl .plain <| kfa rfl rfl ?_; refine kl1 rfl rfl rfl <| kne rfl rfl hne <| kas rfl <| RunK.nil <| LWP.condF rfl ?_; refine LWP.seq <| rgD mixed <| kmv rfl <| K.nilCheck rfl .plain <| kfa rfl rfl ?_; refine kl1 rfl rfl rfl <| kmv rfl <| K.nilCheck rfl .plain <| kfa rfl rfl ?_; refine kl1 rfl rfl rfl <| K.geq rfl rfl (decide_eq_false (by omega)) .plain <| kas rfl <| RunK.nil <| rgA ?_; refine LWP.condF rfl ?_; refine LWP.skip ?_; refine LWP.seq <| LWP.seq <| rgD mixed <| kmv rfl <| K.nilCheck rfl .plain <| kfa rfl rfl ?_; refine kl1 rfl rfl rfl <| kmv rfl <| K.nilCheck rfl .plain <| kfa rfl rfl ?_; refine kl1 rfl rfl rfl <| K.lenX rfl SliceT.h rfl .plain ?_; refine K.mul rfl rfl hmul .plain <| keq rfl rfl heq <| RunK.nil <| rgA ?_; refine LWP.condF rfl ?_; refine LWP.skip ?_; refine LWP.seq <| rgN <| kmv rfl <| K.nilCheck rfl .plain <| kfa rfl rfl ?_; refine kl1 rfl rfl rfl <| kad rfl rfl hadd <| K.nilCheck rfl .plain <| kfa rfl rfl ?_; refine K.storeOne rfl rfl rfl rfl rfl (nl4 rfl rfl rfl rfl rfl) .plain <| RunK.nil <| LWP.seq ?_)
  refine LWP.le (σ' := ⟨[(0, Lp 1000000), (1, Ls row)], [sB 1000000 size cap (L.length + 1) (.val (.slice ad B.length ccap))], joinM X H⟩) (Le.of (by exact ⟨rfl, rfl, trivial⟩) (by exact ⟨rfl, trivial⟩) (by exact rfl) (by exact rfl) (by repeat' (first | refine all_cons_true ?_ ?_ | rfl | exact bytes_inUse | exact vals_inUse | exact mid_inUse rfl))) ?_
  rw [← hv]
  refine chunk_open (m := L.length + 1) hO hI hp (fun _ => rfl) (fun _ _ => rfl) fun H0 hO0 G _ => ?_
  have hat := at_B (joinM X H0) size cap (L.length + 1) (B.getD (L.length / 16) []) L.length cells.length (B.getD (L.length / 16) []).length (cells.take (L.length / 16)) (cells.drop (L.length / 16 + 1)) true true hsm.1 (by omega) (by rw [List.length_take]; omega) (by omega) (by omega)
  have hcp : L.length % 16 * size + row.length ≤ ((B.getD (L.length / 16) []).map bc).length := by rw [List.length_map, h, hbl]; exact hfit
  (refine rgN <| kmv rfl <| kmv rfl <| K.nilCheck rfl .plain <| kfa rfl rfl ?_; refine kl1 rfl rfl rfl <| K.sub rfl rfl hsub .plain <| K.callMp [(1000000, 1000000), (1000001, 900001), (1000002, 900002)] (.sv (.one (.slc 900002 (L.length % 16 * size) size))) (oB size cap (L.length + 1) (L.length / 16) cells (B.getD (L.length / 16) [])) (hat) rfl rfl (by exact (And.intro ⟨_, rfl, rfl⟩ (And.intro ⟨_, rfl, (Box.ren_mid rfl)⟩ (And.intro ⟨_, rfl, (Box.ren_bytes _ _ _ _)⟩ trivial)))) (by exact (all_cons_true (all_cons_true rfl (all_cons_true rfl (all_cons_true rfl (all_cons_true rfl rfl)))) (all_cons_true (mid_inUse rfl) (all_cons_true bytes_inUse rfl)))) rfl rfl rfl rfl (by exact (.box rfl rfl (.box rfl (Box.ren_mid rfl) (.box rfl (Box.ren_bytes _ _ _ _) .nil)))) .plain <| kmv rfl <| K.copyStr (e := 5) rfl rfl rfl (by kernel_rfl) (by kernel_rfl) (by omega) hcp rfl (splice_bc _ _ _) .plain ?_; refine RunK.nil <| LWP.seq <| rgN <| kas rfl <| RunK.nil <| LWP.ret ?_)
  refine Leads.le (σ' := ⟨[(4, Ln .i64 0)], oB size cap (L ++ [row]).length (L.length / 16) cells (splice (B.getD (L.length / 16) []) (L.length % 16 * size) row), joinM X H0⟩) ?_ ?_
  · unfold oB oBr
    rw [splice_len (by rw [hbl, h]; exact hfit), List.length_append]
    exact Le.of (by exact ⟨rfl, trivial⟩) (by exact ⟨rfl, rfl, rfl, trivial⟩) (by exact rfl) (by exact rfl) (by repeat' (first | refine all_cons_true ?_ ?_ | rfl | exact bytes_inUse | exact vals_inUse | exact mid_inUse rfl))
  refine chunk_shut (by omega) hO0 G rfl rfl fun H' v' cells' hO' G' => ?_
  refine col_shut hO' ⟨G', hI.pk.push h hn h16⟩ (Leads.done ?_)
  exact ⟨[], ⟨[_], ⟨rfl, trivial⟩, rfl⟩, (by repeat' (first | exact trivial | refine And.intro ⟨_, rfl, ?_⟩ ?_ | refine And.intro ⟨_, rfl⟩ ?_ | rfl | exact Box.ren_bytes _ _ _ _ | exact Box.ren_vals _ _ _ _ | exact Box.ren_mid rfl)), rfl, rfl⟩
end Go.Proofs.YtbpdbclndfmcgaaGreatDoor
end
section
namespace Go.Proofs.YtbpdbclndfmcgaaGreatDoor
open Go Go.Lg Go.Lg.Col
set_option maxRecDepth 100000
abbrev zs0 (z : Nat) : List UInt8 := List.replicate (16 * z) 0
section
variable {n : Nat} {C : Ctx} {X : Nat → Option Obj} {s : List (Nat × LV)}
theorem new_shut {Mid : St → Prop} {z q : Nat} {L B : List (List UInt8)} {row : List UInt8} {H0 : Nat → Option Obj} {cells : List Value} (hO : OwnedM C X H0) (G : Cells H0 5 [] cells (B.map byV)) (pk : Packed z q L B) (hr : row.length = z) (hf : L.length < q) (hn : L.length % 16 = 0)
    (h : Leads n C Mid ⟨[(4, Ln .i64 0)], [cB 1000000 z q (L ++ [row])], X⟩) :
    Leads n C Mid ⟨[(4, Ln .i64 0)], oBr z q (L ++ [row]).length cells.length (cells ++ [nilSlc]) (splice (zs0 z) (L.length % 16 * z) row) false, joinM X H0⟩ := by
  have hcl : cells.length = B.length := by rw [G.len, List.length_map]
  have hb : B.length = L.length / 16 := by rw [pk.nb]; omega
  have G2 : Cells H0 5 [cells.length] (cells ++ [nilSlc]) ((B ++ [zs0 z]).map byV) := by
    rw [List.map_append]; exact G.snoc nilSlc (byV (zs0 z))
  refine chunk_shut (by rw [List.length_append]; exact Nat.lt_succ_self _) hO G2 rfl rfl fun H' v' cells' hO' G' => ?_
  have hw : (B ++ [zs0 z]).set cells.length (splice (zs0 z) (L.length % 16 * z) row) = wr (B ++ [zs0 z]) z L.length row := by
    unfold wr
    rw [hcl, hb]
    congr 2
    rw [← hb, List.getD_eq_getElem?_getD, List.getElem?_append_right (Nat.le_refl _), Nat.sub_self]; rfl
  rw [hw] at G'
  exact col_shut hO' ⟨G', pk.push_new hr hf hn⟩ h
end
variable (X : Nat → Option Obj)
set_option maxHeartbeats 6400000 in
theorem cAppend_new (size cap : Nat) (L : List (List UInt8)) (row : List UInt8) (h : row.length = size) (hn : L.length < cap) (h16 : L.length % 16 = 0) :
    MSpec Tryz.prog X 47 [Lp 1000000, Ls row] [cB 1000000 size cap L] (Ln .i64 0) [cB 1000000 size cap (L ++ [row])] := by
  refine MSpec.intro Tryz.func47 rfl (by kernel_rfl) rfl rfl (by exact (by repeat' (first | refine all_cons_true ?_ ?_ | rfl | exact bytes_inUse | exact vals_inUse | exact mid_inUse rfl))) rfl rfl ?_
  intro C
  refine LWP.ends (col_open fun H v cells B hO hI => ?_)
  have hnb := hI.pk.nb
  have hfit := place_fit L.length size
  have hsm := hI.pk.small
  have hcl := hI.len
  have hne : (((row.length : Nat) : Int) != (size : Nat)) = false := by rw [bne_eq_false_iff_eq, h]
  have hmul : IntKind.i64.wrap (((B.length : Nat) : Int) * 16) = ((B.length * 16 : Nat) : Int) := by rw [wrap_i64 (by omega)]; omega
  have heq : (((L.length : Nat) : Int) == ((B.length * 16 : Nat) : Int)) = true := by rw [beq_iff_eq]; omega
  have hadd : IntKind.i64.wrap (((L.length : Nat) : Int) + 1) = ((L.length + 1 : Nat) : Int) := by rw [wrap_i64 (by omega)]; omega
  have hsub : IntKind.i64.wrap (((L.length + 1 : Nat) : Int) - 1) = ((L.length : Nat) : Int) := by rw [wrap_i64 (by omega)]; omega
  have hmz : IntKind.i64.wrap (((size : Nat) : Int) * 16) = ((16 * size : Nat) : Int) := by rw [wrap_i64 (by omega)]; omega
  have hmk : slcBuild Tryz.prog 151 (16 * size) = some (List.replicate (16 * size) (.int .u8 0), 1, 5) := slcBuild_one (by kernel_rfl) (by kernel_rfl) (by omega)
  have hz0 : (List.replicate (16 * size) (Value.int .u8 0)).map CV.val = (zs0 size).map bc := by unfold zs0; rw [List.map_replicate, List.map_replicate]; rfl
  have hzl : (zs0 size).length = 16 * size := List.length_replicate
  have hspl : (splice (zs0 size) (L.length % 16 * size) row).length = 16 * size := by rw [splice_len (by rw [hzl, h]; exact hfit), hzl]
  have hcp : L.length % 16 * size + row.length ≤ ((zs0 size).map bc).length := by rw [List.length_map, h, hzl]; exact hfit
  obtain ⟨ad, ccap, hv⟩ := hI.slice
  rw [hv]
  (refine LWP.seq <| rgN <| kas rfl <| RunK.nil <| LWP.seq <| LWP.block <| LWP.seq <| rgN <| kmv rfl <| K.ptrNil rfl (by kernel_rfl) (.inl ⟨rfl, rfl⟩) .plain <| kas rfl <| RunK.nil <| LWP.condF rfl ?_; refine LWP.seq <| rgN <| kmv rfl <| kln rfl <| kmv rfl <| K.nilCheck rfl .plain <| kfa rfl rfl ?_; refine kl1 rfl rfl rfl <| kne rfl rfl hne <| kas rfl <| RunK.nil <| LWP.condF rfl ?_; refine LWP.seq <| rgD mixed <| kmv rfl <| K.nilCheck rfl .plain <| kfa rfl rfl ?_; refine kl1 rfl rfl rfl <| kmv rfl <| K.nilCheck rfl .plain <| kfa rfl rfl ?_; refine kl1 rfl rfl rfl <| K.geq rfl rfl (decide_eq_false (by omega)) .plain <| kas rfl <| RunK.nil <| rgA ?_; refine LWP.condF rfl ?_; refine LWP.skip ?_; refine LWP.seq <| LWP.seq <| rgD mixed <| kmv rfl <| K.nilCheck rfl .plain <| kfa rfl rfl ?_; refine kl1 rfl rfl rfl <| kmv rfl <| K.nilCheck rfl .plain <| kfa rfl rfl ?_; refine kl1 rfl rfl rfl <| K.lenX rfl SliceT.h rfl .plain ?_; refine K.mul rfl rfl hmul .plain <| keq rfl rfl heq <| RunK.nil <| rgA ?_; refine LWP.condT rfl ?_)
  refine LWP.le (σ' := ⟨[(0, Lp 1000000), (1, Ls row)], [sB 1000000 size cap L.length (.val (.slice ad B.length ccap))], joinM X H⟩) (Le.of (by exact ⟨rfl, rfl, trivial⟩) (by exact ⟨rfl, trivial⟩) (by exact rfl) (by exact rfl) (by repeat' (first | refine all_cons_true ?_ ?_ | rfl | exact bytes_inUse | exact vals_inUse | exact mid_inUse rfl))) ?_
  rw [← hv]
  rcases hI.grid with ⟨db, hd, G⟩ | ⟨rfl, rfl, hB0⟩
  · have hat := at_B (joinM X (cutM H db)) size cap (L.length + 1) (zs0 size) L.length (cells.length + 1) (16 * size) cells [] true false hsm.1 (by omega) (by omega) (by omega) hfit
    have hcl1 : (cells.map CV.val).length = cells.length * 1 := by rw [List.length_map, Nat.mul_one]
    refine LWP.openCell (A := [.val (.int .i64 (size : Nat)), .val (.int .i64 (cap : Nat)), .val (.int .i64 (L.length : Nat))]) (B := []) (k := 900001) (sz := 1) (len := cells.length) hO hd (by omega) (by omega) rfl rfl rfl rfl rfl ?_
    (refine rgD mixed <| kmv rfl <| kmv rfl <| K.nilCheck rfl .plain <| kfa rfl rfl ?_; refine kl1 rfl rfl rfl <| kmv rfl <| K.nilCheck rfl .plain <| kfa rfl rfl ?_; refine kl1 rfl rfl rfl <| K.mul rfl rfl hmz .plain <| K.makeSlc (m := 16 * size) (bytes := 1) rfl rfl hmk (by kernel_rfl) (by omega) hz0 rfl .plain <| K.buildSlc (zs := [.slice none 0 0]) (sz := 1) (e := 151) (cs' := [.slc 47 0 (16 * size)]) (by kernel_rfl) rfl rfl rfl rfl rfl rfl .plain <| K.appendSlc (by_ := 24) (e2 := 151) (l2 := [.slc 47 0 (16 * size)]) (nl := cells.length + 1) (nc := cells.map .val ++ [.slc 47 0 (16 * size)]) rfl rfl hcl1 rfl rfl (Nat.le_refl _) rfl rfl (by kernel_rfl) (by kernel_rfl) (by omega) (by omega) rfl rfl rfl .plain <| K.nilCheck rfl .plain <| kfa rfl rfl ?_; refine K.storeOne rfl rfl rfl rfl rfl (nl4 rfl rfl rfl rfl rfl) .plain <| RunK.nil <| rgA ?_; refine LWP.seq <| rgN <| kmv rfl <| K.nilCheck rfl .plain <| kfa rfl rfl ?_; refine kl1 rfl rfl rfl <| kad rfl rfl hadd <| K.nilCheck rfl .plain <| kfa rfl rfl ?_; refine K.storeOne rfl rfl rfl rfl rfl (nl4 rfl rfl rfl rfl rfl) .plain <| RunK.nil <| LWP.seq <| rgN <| kmv rfl <| kmv rfl <| K.nilCheck rfl .plain <| kfa rfl rfl ?_; refine kl1 rfl rfl rfl <| K.sub rfl rfl hsub .plain <| K.callMp [(1000000, 1000000), (1000001, 49), (1000002, 47)] (.sv (.one (.slc 47 (L.length % 16 * size) size))) [sB 1000000 size cap (L.length + 1) (.slc 49 0 (cells.length + 1)), (49, some ⟨151, cells.map .val ++ [.slc 47 0 (16 * size)], true⟩), (47, some ⟨5, (zs0 size).map bc, false⟩)] (hat) rfl rfl (by exact (And.intro ⟨_, rfl, rfl⟩ (And.intro ⟨_, rfl, (Box.ren_mid rfl)⟩ (And.intro ⟨_, rfl, (Box.ren_bytes _ _ _ _)⟩ trivial)))) (by exact (all_cons_true (all_cons_true rfl (all_cons_true rfl (all_cons_true rfl (all_cons_true rfl rfl)))) (all_cons_true (mid_inUse rfl) (all_cons_true bytes_inUse rfl)))) rfl rfl rfl rfl (by exact (.box rfl rfl (.box rfl (Box.ren_mid rfl) (.box rfl (Box.ren_bytes _ _ _ _) .nil)))) .plain <| kmv rfl <| K.copyStr (e := 5) rfl rfl rfl (by kernel_rfl) (by kernel_rfl) (by omega) hcp rfl (splice_bc _ _ _) .plain ?_; refine RunK.nil <| LWP.seq <| rgN <| kas rfl <| RunK.nil <| LWP.ret ?_)
    refine Leads.le (σ' := ⟨[(4, Ln .i64 0)], oBr size cap (L ++ [row]).length cells.length (cells ++ [nilSlc]) (splice (zs0 size) (L.length % 16 * size) row) false, joinM X (cutM H db)⟩) ?_ ?_
    · unfold oBr
      rw [hspl, List.length_append, List.length_append, List.take_left, List.drop_eq_nil_of_le (by rw [List.length_append]; exact Nat.le_refl _)]
      exact Le.ofR [(900001, 49), (900002, 47)] (by exact ⟨rfl, trivial⟩) (by repeat' (first | exact trivial | refine And.intro ⟨_, rfl, ?_⟩ ?_ | refine And.intro ⟨_, rfl⟩ ?_ | rfl | exact Box.ren_bytes _ _ _ _ | exact Box.ren_vals _ _ _ _ | exact Box.ren_mid rfl)) (by exact rfl) (by exact rfl) (by repeat' (first | refine all_cons_true ?_ ?_ | rfl | exact bytes_inUse | exact vals_inUse | exact mid_inUse rfl)) (by exact rfl) (by exact rfl)
    refine new_shut (hO.cut db) G hI.pk h hn h16 (Leads.done ?_)
    exact ⟨[], ⟨[_], ⟨rfl, trivial⟩, rfl⟩, (by repeat' (first | exact trivial | refine And.intro ⟨_, rfl, ?_⟩ ?_ | refine And.intro ⟨_, rfl⟩ ?_ | rfl | exact Box.ren_bytes _ _ _ _ | exact Box.ren_vals _ _ _ _ | exact Box.ren_mid rfl)), rfl, rfl⟩
  · have hB : B = [] := List.map_eq_nil_iff.1 hB0
    subst hB
    have hat := at_B (joinM X H) size cap (L.length + 1) (zs0 size) L.length 1 (16 * size) [] [] true false hsm.1 (by omega) (by rw [List.length_nil] at *; omega) (by rw [List.length_nil] at *; omega) hfit
    (refine rgD mixed <| kmv rfl <| kmv rfl <| K.nilCheck rfl .plain <| kfa rfl rfl ?_; refine kl1 rfl rfl rfl <| kmv rfl <| K.nilCheck rfl .plain <| kfa rfl rfl ?_; refine kl1 rfl rfl rfl <| K.mul rfl rfl hmz .plain <| K.makeSlc (m := 16 * size) (bytes := 1) rfl rfl hmk (by kernel_rfl) (by omega) hz0 rfl .plain <| K.buildSlc (zs := [.slice none 0 0]) (sz := 1) (e := 151) (cs' := [.slc 47 0 (16 * size)]) (by kernel_rfl) rfl rfl rfl rfl rfl rfl .plain <| K.appendNil (by_ := 24) (e := 151) (e2 := 151) (l2 := [.slc 47 0 (16 * size)]) rfl rfl rfl (Nat.le_refl _) rfl rfl (by decide) (by kernel_rfl) (by kernel_rfl) (by omega) (by omega) rfl .plain ?_; refine K.nilCheck rfl .plain <| kfa rfl rfl ?_; refine K.storeOne rfl rfl rfl rfl rfl (nl4 rfl rfl rfl rfl rfl) .plain <| RunK.nil <| rgA ?_; refine LWP.seq <| rgN <| kmv rfl <| K.nilCheck rfl .plain <| kfa rfl rfl ?_; refine kl1 rfl rfl rfl <| kad rfl rfl hadd <| K.nilCheck rfl .plain <| kfa rfl rfl ?_; refine K.storeOne rfl rfl rfl rfl rfl (nl4 rfl rfl rfl rfl rfl) .plain <| RunK.nil <| LWP.seq <| rgN <| kmv rfl <| kmv rfl <| K.nilCheck rfl .plain <| kfa rfl rfl ?_; refine kl1 rfl rfl rfl <| K.sub rfl rfl hsub .plain <| K.callMp [(1000000, 1000000), (1000001, 49), (1000002, 47)] (.sv (.one (.slc 47 (L.length % 16 * size) size))) [sB 1000000 size cap (L.length + 1) (.slc 49 0 1), (49, some ⟨151, [.slc 47 0 (16 * size)], true⟩), (47, some ⟨5, (zs0 size).map bc, false⟩)] (hat) rfl rfl (by exact (And.intro ⟨_, rfl, rfl⟩ (And.intro ⟨_, rfl, rfl⟩ (And.intro ⟨_, rfl, (Box.ren_bytes _ _ _ _)⟩ trivial)))) (by exact (all_cons_true (all_cons_true rfl (all_cons_true rfl (all_cons_true rfl (all_cons_true rfl rfl)))) (all_cons_true (all_cons_true rfl rfl) (all_cons_true bytes_inUse rfl)))) rfl rfl rfl rfl (by exact (.box rfl rfl (.box rfl rfl (.box rfl (Box.ren_bytes _ _ _ _) .nil)))) .plain <| kmv rfl <| K.copyStr (e := 5) rfl rfl rfl (by kernel_rfl) (by kernel_rfl) (by omega) hcp rfl (splice_bc _ _ _) .plain ?_; refine RunK.nil <| LWP.seq <| rgN <| kas rfl <| RunK.nil <| LWP.ret ?_)
    refine Leads.le (σ' := ⟨[(4, Ln .i64 0)], oBr size cap (L ++ [row]).length ([] : List Value).length ([] ++ [nilSlc]) (splice (zs0 size) (L.length % 16 * size) row) false, joinM X H⟩) ?_ ?_
    · unfold oBr
      rw [hspl, List.length_append]
      exact Le.ofR [(900001, 49), (900002, 47)] (by exact ⟨rfl, trivial⟩) (by repeat' (first | exact trivial | refine And.intro ⟨_, rfl, ?_⟩ ?_ | refine And.intro ⟨_, rfl⟩ ?_ | rfl | exact Box.ren_bytes _ _ _ _ | exact Box.ren_vals _ _ _ _ | exact Box.ren_mid rfl)) (by exact rfl) (by exact rfl) (by repeat' (first | refine all_cons_true ?_ ?_ | rfl | exact bytes_inUse | exact vals_inUse | exact mid_inUse rfl)) (by exact rfl) (by exact rfl)
    refine new_shut (B := []) hO (Cells.nil H 5 []) hI.pk h hn h16 (Leads.done ?_)
    exact ⟨[], ⟨[_], ⟨rfl, trivial⟩, rfl⟩, (by repeat' (first | exact trivial | refine And.intro ⟨_, rfl, ?_⟩ ?_ | refine And.intro ⟨_, rfl⟩ ?_ | rfl | exact Box.ren_bytes _ _ _ _ | exact Box.ren_vals _ _ _ _ | exact Box.ren_mid rfl)), rfl, rfl⟩
theorem cAppend_ok (size cap : Nat) (L : List (List UInt8)) (row : List UInt8) (h : appE size cap L.length row = 0) :
    MSpec Tryz.prog X 47 [Lp 1000000, Ls row] [cB 1000000 size cap L] (Ln .i64 0) [cB 1000000 size cap (L ++ [row])] := by
  obtain ⟨h1, h2⟩ := appE_ok h
  by_cases h16 : L.length % 16 = 0
  · exact cAppend_new X size cap L row h1 h2 h16
  · exact cAppend_in X size cap L row h1 h2 h16
end Go.Proofs.YtbpdbclndfmcgaaGreatDoor
end
section
namespace Go.Proofs.YtbpdbclndfmcgaaGreatDoor
open Go Go.Lg Go.Lg.Col
set_option maxRecDepth 100000
theorem mid_other {α β : Type} {f : α → β} {cells : List α} {p j : Nat} {x : β} {c : α} (hp : p < cells.length) (hj : p ≠ j) (hc : cells[j]? = some c) : ((cells.take p).map f ++ x :: (cells.drop (p + 1)).map f)[j]? = some (f c) := by
  have e : (cells.take p).map f ++ x :: (cells.drop (p + 1)).map f = (cells.map f).set p x := by
    rw [List.set_eq_take_append_cons_drop, if_pos (by rw [List.length_map]; exact hp), List.map_take, List.map_drop]
  rw [e, List.getElem?_set_ne hj, List.getElem?_map, hc]; rfl
variable (X : Nat → Option Obj)
theorem drop_spec (z q m : Nat) (A : List Value) (w : Value) (hA : A.length < 65536) :
    MSpec Tryz.prog X 87 [Lp 1000000] [sB 1000000 z q m (.slc 1000001 0 (A.length + 1)), (1000001, some ⟨151, A.map .val ++ .val w :: ([] : List Value).map .val, true⟩)] (.tup [])
      [sB 1000000 z q m (.slc 1000001 0 A.length), (1000001, some ⟨151, A.map .val ++ .val nilSlc :: ([] : List Value).map .val, true⟩)] := by
  refine MSpec.intro Tryz.func87 rfl (by kernel_rfl) rfl rfl (by exact (by repeat' (first | refine all_cons_true ?_ ?_ | rfl | exact bytes_inUse | exact vals_inUse | exact mid_inUse rfl))) rfl rfl ?_
  intro C
  have hsub : IntKind.i64.wrap (((A.length + 1 : Nat) : Int) - 1) = ((A.length : Nat) : Int) := by rw [wrap_i64 (by omega)]; omega
  have hix : 0 + Int.toNat ((A.length : Nat) : Int) * 1 = A.length := by rw [Int.toNat_natCast]; omega
  have hblt : Nat.blt A.length (A.map CV.val ++ .val w :: ([] : List Value).map CV.val).length = true := by rw [Nat.blt_eq, List.length_append, List.length_map]; simp
  have hput : (A.map CV.val ++ .val w :: ([] : List Value).map CV.val).set A.length (.val nilSlc) = A.map CV.val ++ .val nilSlc :: ([] : List Value).map CV.val := by
    rw [List.set_append_right _ _ (by rw [List.length_map]; exact Nat.le_refl _), List.length_map, Nat.sub_self]; rfl
  (refine LWP.seq <| rgN <| kmv rfl <| K.nilCheck rfl .plain <| kfa rfl rfl ?_; refine kl1 rfl rfl rfl <| K.lenSlc rfl SliceT.h rfl .plain ?_; refine K.sub rfl rfl hsub .plain <| kas rfl <| RunK.nil <| LWP.seq <| rgN <| kmv rfl <| K.nilCheck rfl .plain <| kfa rfl rfl ?_; refine kl1 rfl rfl rfl <| kmv rfl <| K.indexSlc rfl rfl (by omega) hix .plain ?_; refine K.storeOne rfl rfl rfl rfl hblt hput .plain <| RunK.nil <| rgN <| kmv rfl <| kmv rfl <| K.nilCheck rfl .plain <| kfa rfl rfl ?_; refine kl1 rfl rfl rfl <| kmv rfl <| K.cutSlc rfl rfl SliceT.h (by omega) .plain <| K.nilCheck rfl .plain <| kfa rfl rfl ?_; refine K.storeOne rfl rfl rfl rfl rfl (nl4 rfl rfl rfl rfl rfl) .plain <| RunK.nil ?_)
  exact ⟨[], ⟨[], trivial, rfl⟩, (by repeat' (first | exact trivial | refine And.intro ⟨_, rfl, ?_⟩ ?_ | refine And.intro ⟨_, rfl⟩ ?_ | rfl | exact Box.ren_bytes _ _ _ _ | exact Box.ren_vals _ _ _ _ | exact Box.ren_mid rfl)), rfl, rfl⟩
set_option maxHeartbeats 6400000 in
theorem cSwap_ok (size cap : Nat) (L : List (List UInt8)) (i : Nat) {M : List (List UInt8)} (h : i < L.length) (hM : swapL L i = M) :
    MSpec Tryz.prog X 49 [Lp 1000000, Ln .i64 (i : Nat)] [cB 1000000 size cap L] (.tup [Sn .i64 (L.length - 1 : Nat), Sn .i64 0]) [cB 1000000 size cap M] := by
  subst hM
  refine MSpec.intro Tryz.func49 rfl (by kernel_rfl) rfl rfl (by exact (by repeat' (first | refine all_cons_true ?_ ?_ | rfl | exact bytes_inUse | exact vals_inUse | exact mid_inUse rfl))) rfl rfl ?_
  intro C
  refine LWP.ends (col_open fun H v cells B hO hI => ?_)
  obtain ⟨l, hl⟩ : ∃ l, L[L.length - 1]? = some l := ⟨_, List.getElem?_eq_getElem (by omega)⟩
  have hlen := hI.pk.rows l (List.mem_of_getElem? hl)
  have hs := seek_ok (joinM X H) size cap L.length v i h
  have hnb := hI.pk.nb
  have hp : i / 16 < B.length := by omega
  have hp1 : (L.length - 1) / 16 < B.length := by omega
  have hfit := place_fit i size
  have hfit1 := place_fit (L.length - 1) size
  have hsm := hI.pk.small
  have hq := hI.pk.fit
  have hcl := hI.len
  have hbl := hI.pk.len_at hp
  have hbl1 := hI.pk.len_at hp1
  have hrow := hI.pk.row _ l hl
  unfold rowOf at hrow
  have hsw := hI.pk.swap h hl
  have hswl := swapL_len (L := L) (i := i) (by omega)
  have hsub : IntKind.i64.wrap (((L.length : Nat) : Int) - 1) = ((L.length - 1 : Nat) : Int) := by rw [wrap_i64 (by omega)]; omega
  have hone : (byV l).all Value.oneCell' = true := by unfold byV; rw [List.all_map]; exact List.all_eq_true.2 fun _ _ => rfl
  (refine LWP.seq <| rgN <| kas rfl <| kas rfl <| RunK.nil <| LWP.seq <| LWP.seq <| rgN <| kmv rfl <| kmv rfl <| K.callR [(1000000, 1000000)] (hs) rfl rfl (by exact (And.intro ⟨_, rfl, rfl⟩ trivial)) (by exact (all_cons_true (all_cons_true rfl (all_cons_true rfl (all_cons_true rfl (all_cons_true rfl rfl)))) rfl)) rfl rfl rfl rfl .plain <| kas rfl <| RunK.nil <| LWP.seq ?_; refine rgN <| kmv rfl <| kne rfl rfl ((bne_eq_false_iff_eq.2 (by omega))) <| RunK.nil <| LWP.condF rfl ?_; refine LWP.skip ?_; refine LWP.seq <| rgN <| kmv rfl <| K.nilCheck rfl .plain <| kfa rfl rfl ?_; refine kl1 rfl rfl rfl <| K.sub rfl rfl hsub .plain <| kas rfl <| RunK.nil <| LWP.seq ?_)
  generalize hn1 : L.length - 1 = n1 at *
  refine LWP.meetL (fun σ => ∃ (H' : Nat → Option Obj) (v' : Value) (cells' : List Value), OwnedM C X H' ∧ Grid H' 151 5 v' cells' ((wr B size i l).map byV) ∧ σ = ⟨[(0, Lp 1000000), (7, Ln .i64 (n1 : Nat))], [sB 1000000 size cap L.length (.val v')], joinM X H'⟩) ?_ ?_
  · refine chunk_open hO hI hp (fun _ => rfl) (fun _ _ => rfl) fun H0 hO0 G hoth => ?_
    have hat := at_B (joinM X H0) size cap L.length (B.getD (i / 16) []) i cells.length (B.getD (i / 16) []).length (cells.take (i / 16)) (cells.drop (i / 16 + 1)) true true hsm.1 (by omega) (by rw [List.length_take]; omega) (by omega) (by omega)
    have hcp : i % 16 * size + size ≤ ((B.getD (i / 16) []).map bc).length := by rw [List.length_map, hbl]; exact hfit
    have hspl : splice ((B.getD (i / 16) []).map bc) (i % 16 * size) ((byV l).map CV.val) = (splice (B.getD (i / 16) []) (i % 16 * size) l).map bc := by rw [byV_bc]; exact splice_bc _ _ _
    have hend : (splice (B.getD (i / 16) []) (i % 16 * size) l).length = (B.getD (i / 16) []).length := splice_len (by rw [hlen, hbl]; exact hfit)
    by_cases hsame : i / 16 = n1 / 16
    · have hat2 := at_B (joinM X H0) size cap L.length (B.getD (i / 16) []) n1 cells.length (B.getD (i / 16) []).length (cells.take (i / 16)) (cells.drop (i / 16 + 1)) true true hsm.1 (by omega) (by rw [List.length_take]; omega) (by omega) (by omega)
      have hsrc : (((B.getD (i / 16) []).map bc).drop (n1 % 16 * size)).take size = (byV l).map CV.val := by rw [← List.map_drop, ← List.map_take, hsame, hrow, byV_bc]
      have hcp2 : n1 % 16 * size + size ≤ ((B.getD (i / 16) []).map bc).length := by rw [List.length_map, hbl]; exact hfit1
      (refine rgN <| kmv rfl <| kmv rfl <| K.callMp [(1000000, 1000000), (1000001, 900001), (1000002, 900002)] (.sv (.one (.slc 900002 (i % 16 * size) size))) (oB size cap L.length (i / 16) cells (B.getD (i / 16) [])) (hat) rfl rfl (by exact (And.intro ⟨_, rfl, rfl⟩ (And.intro ⟨_, rfl, (Box.ren_mid rfl)⟩ (And.intro ⟨_, rfl, (Box.ren_bytes _ _ _ _)⟩ trivial)))) (by exact (all_cons_true (all_cons_true rfl (all_cons_true rfl (all_cons_true rfl (all_cons_true rfl rfl)))) (all_cons_true (mid_inUse rfl) (all_cons_true bytes_inUse rfl)))) rfl rfl rfl rfl (by exact (.box rfl rfl (.box rfl (Box.ren_mid rfl) (.box rfl (Box.ren_bytes _ _ _ _) .nil)))) .plain <| kmv rfl <| kmv rfl <| K.callMp [(1000000, 1000000), (1000001, 900001), (1000002, 900002)] (.sv (.one (.slc 900002 (n1 % 16 * size) size))) (oB size cap L.length (i / 16) cells (B.getD (i / 16) [])) (hat2) rfl rfl (by exact (And.intro ⟨_, rfl, rfl⟩ (And.intro ⟨_, rfl, (Box.ren_mid rfl)⟩ (And.intro ⟨_, rfl, (Box.ren_bytes _ _ _ _)⟩ trivial)))) (by exact (all_cons_true (all_cons_true rfl (all_cons_true rfl (all_cons_true rfl (all_cons_true rfl rfl)))) (all_cons_true (mid_inUse rfl) (all_cons_true bytes_inUse rfl)))) rfl rfl rfl rfl (by exact (.box rfl rfl (.box rfl (Box.ren_mid rfl) (.box rfl (Box.ren_bytes _ _ _ _) .nil)))) .plain <| K.copySlc (e := 5) (m := size) (byV l) rfl rfl rfl rfl (by kernel_rfl) (by kernel_rfl) (Nat.min_self _) hcp hcp2 hsrc hone hspl .plain ?_; refine RunK.nil ?_)
      refine Leads.le (σ' := ⟨[(0, Lp 1000000), (7, Ln .i64 (n1 : Nat))], oB size cap L.length (i / 16) cells (splice (B.getD (i / 16) []) (i % 16 * size) l), joinM X H0⟩) ?_ ?_
      · unfold oB oBr
        rw [hend]
        exact Le.of (by exact ⟨rfl, rfl, trivial⟩) (by exact ⟨rfl, rfl, rfl, trivial⟩) (by exact rfl) (by exact rfl) (by repeat' (first | refine all_cons_true ?_ ?_ | rfl | exact bytes_inUse | exact vals_inUse | exact mid_inUse rfl))
      exact chunk_shut (by omega) hO0 G rfl rfl fun H' v' cells' hO' G' => Leads.done ⟨H', v', cells', hO', G', rfl⟩
    · obtain ⟨c, hc⟩ : ∃ c, cells[n1 / 16]? = some c := ⟨_, List.getElem?_eq_getElem (by omega)⟩
      obtain ⟨b, ccap, arr, fr, sp, rfl, g1, g2, g3⟩ := hoth (n1 / 16) c (fun e => hsame e.symm) hc
      have hcell : ((cells.take (i / 16)).map CV.val ++ .slc 1000002 0 (B.getD (i / 16) []).length :: (cells.drop (i / 16 + 1)).map CV.val)[n1 / 16]? = some (.val (.slice (some ⟨b, 0, none⟩) (16 * size) ccap)) := mid_other (by omega) hsame hc
      have hat2 := at_V (joinM X H0) size cap L.length (B.getD (i / 16) []) n1 cells.length (16 * size) (B.getD (i / 16) []).length b ccap (cells.take (i / 16)) (cells.drop (i / 16 + 1)) true true hsm.1 (by omega) (by omega) hfit1 g1 hcell
      obtain ⟨r1, r2⟩ := chunk_read (p := n1 % 16 * size) (z := size) g3 (by rw [hbl1]; exact hfit1)
      rw [hrow] at r2
      have hX2 := joinM_in (X := X) g2
      (refine rgN <| kmv rfl <| kmv rfl <| K.callMp [(1000000, 1000000), (1000001, 900001), (1000002, 900002)] (.sv (.one (.slc 900002 (i % 16 * size) size))) (oB size cap L.length (i / 16) cells (B.getD (i / 16) [])) (hat) rfl rfl (by exact (And.intro ⟨_, rfl, rfl⟩ (And.intro ⟨_, rfl, (Box.ren_mid rfl)⟩ (And.intro ⟨_, rfl, (Box.ren_bytes _ _ _ _)⟩ trivial)))) (by exact (all_cons_true (all_cons_true rfl (all_cons_true rfl (all_cons_true rfl (all_cons_true rfl rfl)))) (all_cons_true (mid_inUse rfl) (all_cons_true bytes_inUse rfl)))) rfl rfl rfl rfl (by exact (.box rfl rfl (.box rfl (Box.ren_mid rfl) (.box rfl (Box.ren_bytes _ _ _ _) .nil)))) .plain <| kmv rfl <| kmv rfl <| K.callR [(1000000, 1000000), (1000001, 900001), (1000002, 900002)] (hat2) rfl rfl (by exact (And.intro ⟨_, rfl, rfl⟩ (And.intro ⟨_, rfl, (Box.ren_mid rfl)⟩ (And.intro ⟨_, rfl, (Box.ren_bytes _ _ _ _)⟩ trivial)))) (by exact (all_cons_true (all_cons_true rfl (all_cons_true rfl (all_cons_true rfl (all_cons_true rfl rfl)))) (all_cons_true (mid_inUse rfl) (all_cons_true bytes_inUse rfl)))) rfl rfl rfl rfl .plain <| K.copyX (e := 5) (m := size) (byV l) rfl rfl rfl hX2 (by kernel_rfl) (by kernel_rfl) (Nat.min_self _) hcp r1 r2 hone hspl .plain ?_; refine RunK.nil ?_)
      refine Leads.le (σ' := ⟨[(0, Lp 1000000), (7, Ln .i64 (n1 : Nat))], oB size cap L.length (i / 16) cells (splice (B.getD (i / 16) []) (i % 16 * size) l), joinM X H0⟩) ?_ ?_
      · unfold oB oBr
        rw [hend]
        exact Le.of (by exact ⟨rfl, rfl, trivial⟩) (by exact ⟨rfl, rfl, rfl, trivial⟩) (by exact rfl) (by exact rfl) (by repeat' (first | refine all_cons_true ?_ ?_ | rfl | exact bytes_inUse | exact vals_inUse | exact mid_inUse rfl))
      exact chunk_shut (by omega) hO0 G rfl rfl fun H' v' cells' hO' G' => Leads.done ⟨H', v', cells', hO', G', rfl⟩
  · rintro σ ⟨H', v', cells', hO', G', rfl⟩
    have hrem : ((n1 : Nat) : Int).tmod 16 = ((n1 % 16 : Nat) : Int) := by rw [Int.tmod_eq_emod_of_nonneg (by omega)]; omega
    have hcl' : cells'.length = B.length := by rw [G'.len, List.length_map, wr_len]
    by_cases hd : n1 % 16 = 0
    · have hz : (((n1 % 16 : Nat) : Int) == 0) = true := by rw [beq_iff_eq]; omega
      (refine LWP.seq <| rgN <| kmv rfl <| kmv rfl <| K.nilCheck rfl .plain <| kfa rfl rfl ?_; refine K.storeOne rfl rfl rfl rfl rfl (nl4 rfl rfl rfl rfl rfl) .plain <| RunK.nil <| LWP.seq <| LWP.seq <| rgN <| kmv rfl <| K.rem rfl rfl (by decide) hrem .plain <| keq rfl rfl hz <| RunK.nil <| LWP.condT rfl ?_)
      refine LWP.le (σ' := ⟨[(0, Lp 1000000), (7, Ln .i64 (n1 : Nat))], [sB 1000000 size cap n1 (.val v')], joinM X H'⟩) (Le.of (by exact ⟨rfl, rfl, trivial⟩) (by exact ⟨rfl, trivial⟩) (by exact rfl) (by exact rfl) (by repeat' (first | refine all_cons_true ?_ ?_ | rfl | exact bytes_inUse | exact vals_inUse | exact mid_inUse rfl))) ?_
      obtain ⟨db, hdb, Gc⟩ := G'.real (fun e => by
        have : ((wr B size i l).map byV).length = 0 := by rw [e]; rfl
        rw [List.length_map, wr_len] at this; omega)
      refine LWP.openCell (A := [.val (.int .i64 (size : Nat)), .val (.int .i64 (cap : Nat)), .val (.int .i64 (n1 : Nat))]) (B := []) (k := 900001) (sz := 1) (len := cells'.length) hO' hdb (by omega) (by omega) rfl rfl rfl rfl rfl ?_
      obtain ⟨w, hw⟩ : ∃ w, cells'[n1 / 16]? = some w := ⟨_, List.getElem?_eq_getElem (by omega)⟩
      have hAl : (cells'.take (n1 / 16)).length = n1 / 16 := by rw [List.length_take]; omega
      have hdr : cells'.drop (n1 / 16 + 1) = [] := List.drop_eq_nil_of_le (by omega)
      have hmid : cells'.map CV.val = (cells'.take (n1 / 16)).map .val ++ .val w :: ([] : List Value).map .val := by
        conv => lhs; rw [mid_of hw, hdr]
        simp
      have htk := Gc.take (n1 / 16)
      have hlen1 : cells'.length = (cells'.take (n1 / 16)).length + 1 := by rw [hAl]; omega
      rw [hmid, hlen1]
      have hdrop := drop_spec (joinM X (cutM H' db)) size cap n1 (cells'.take (n1 / 16)) w (by omega)
      generalize cells'.take (n1 / 16) = A at *
      (refine rgN <| kmv rfl <| K.callM [(1000000, 1000000), (1000001, 900001)] [sB 1000000 size cap n1 (.slc 900001 0 A.length), (900001, some ⟨151, A.map .val ++ .val nilSlc :: ([] : List Value).map .val, true⟩)] (hdrop) rfl rfl (by exact (And.intro ⟨_, rfl, rfl⟩ (And.intro ⟨_, rfl, (Box.ren_mid rfl)⟩ trivial))) (by exact (all_cons_true (all_cons_true rfl (all_cons_true rfl (all_cons_true rfl (all_cons_true rfl rfl)))) (all_cons_true (mid_inUse rfl) rfl))) rfl rfl rfl rfl (by exact (.box rfl rfl (.box rfl (Box.ren_mid rfl) .nil))) .plain <| RunK.nil <| LWP.seq <| rgN <| kmv rfl <| kas rfl <| kas rfl <| RunK.nil <| LWP.ret ?_)
      refine Leads.le (σ' := ⟨[(4, Ln .i64 (n1 : Nat)), (5, Ln .i64 0)], [(900001, some ⟨151, A.map .val ++ .val nilSlc :: ([] : List Value).map .val, true⟩), sB 1000000 size cap n1 (.slc 900001 0 A.length)], joinM X (cutM H' db)⟩) (Le.of (by exact ⟨rfl, rfl, trivial⟩) (by exact ⟨rfl, rfl, trivial⟩) (by exact rfl) (by exact rfl) (by repeat' (first | refine all_cons_true ?_ ?_ | rfl | exact bytes_inUse | exact vals_inUse | exact mid_inUse rfl))) ?_
      refine Leads.le Le.trim ?_
      refine Leads.le (σ' := ⟨[(4, Ln .i64 (n1 : Nat)), (5, Ln .i64 0)], [(1000000, some ⟨143, [.val (.int .i64 (size : Nat)), .val (.int .i64 (cap : Nat)), .val (.int .i64 (n1 : Nat))] ++ .slc 900001 0 A.length :: [], false⟩), (900001, some ⟨151, A.map .val, true⟩)], joinM X (cutM H' db)⟩) ?_ ?_
      · exact Le.same ⟨fun _ => rfl, fun j => look_swap rfl, rfl⟩
      refine Leads.closeCell (hO'.cut db) (by omega) rfl rfl rfl rfl rfl rfl fun d1 o2 v2 h2 _ hO4 hv2 => ?_
      have hgr := Grid.shut htk h2 hv2
      rw [← List.map_take] at hgr
      rw [← hswl]
      refine col_shut hO4 (cells := A) (B := (wr B size i l).take ((n1 + 15) / 16)) ⟨?_, hsw⟩ (Leads.done ?_)
      · rw [show (n1 + 15) / 16 = n1 / 16 by omega]; exact hgr
      · exact ⟨[], ⟨[_, _], ⟨rfl, rfl, trivial⟩, rfl⟩, (by repeat' (first | exact trivial | refine And.intro ⟨_, rfl, ?_⟩ ?_ | refine And.intro ⟨_, rfl⟩ ?_ | rfl | exact Box.ren_bytes _ _ _ _ | exact Box.ren_vals _ _ _ _ | exact Box.ren_mid rfl)), rfl, rfl⟩
    · have hz : (((n1 % 16 : Nat) : Int) == 0) = false := by rw [beq_eq_false_iff_ne]; omega
      (refine LWP.seq <| rgN <| kmv rfl <| kmv rfl <| K.nilCheck rfl .plain <| kfa rfl rfl ?_; refine K.storeOne rfl rfl rfl rfl rfl (nl4 rfl rfl rfl rfl rfl) .plain <| RunK.nil <| LWP.seq <| LWP.seq <| rgN <| kmv rfl <| K.rem rfl rfl (by decide) hrem .plain <| keq rfl rfl hz <| RunK.nil <| LWP.condF rfl ?_; refine LWP.skip ?_; refine LWP.seq <| rgN <| kmv rfl <| kas rfl <| kas rfl <| RunK.nil <| LWP.ret ?_)
      refine Leads.le (σ' := ⟨[(4, Ln .i64 (n1 : Nat)), (5, Ln .i64 0)], [sB 1000000 size cap (swapL L i).length (.val v')], joinM X H'⟩) (by rw [hswl]; exact Le.of (by exact ⟨rfl, rfl, trivial⟩) (by exact ⟨rfl, trivial⟩) (by exact rfl) (by exact rfl) (by repeat' (first | refine all_cons_true ?_ ?_ | rfl | exact bytes_inUse | exact vals_inUse | exact mid_inUse rfl))) ?_
      rw [List.take_of_length_le (by rw [wr_len]; omega)] at hsw
      refine col_shut hO' ⟨G', hsw⟩ (Leads.done ?_)
      exact ⟨[], ⟨[_, _], ⟨rfl, rfl, trivial⟩, rfl⟩, (by repeat' (first | exact trivial | refine And.intro ⟨_, rfl, ?_⟩ ?_ | refine And.intro ⟨_, rfl⟩ ?_ | rfl | exact Box.ren_bytes _ _ _ _ | exact Box.ren_vals _ _ _ _ | exact Box.ren_mid rfl)), rfl, rfl⟩
end Go.Proofs.YtbpdbclndfmcgaaGreatDoor
end
section
namespace Go.Lg.Sg
open Go Go.Lg
def digS (n : Int) (c : UInt8) : Option Int := if c.toNat < 48 ∨ 57 < c.toNat ∨ n = 0 ∨ 99 < n ∨ (n < 0 ∧ c.toNat = 48) then none else some ((if n < 0 then 0 else n) * 10 + ((c.toNat : Int) - 48))
def sepS (q : List Int × Int) : Option (List Int × Int) := if q.2 < 1 ∨ 24 < q.2 ∨ (q.1.getLast?.any fun y => decide (q.2 ≤ y)) = true then none else some (q.1 ++ [q.2], -1)
def chS (q : List Int × Int) (c : UInt8) : Option (List Int × Int) := if c = 43 then sepS q else (digS q.2 c).map fun n => (q.1, n)
def runS (q : List Int × Int) (s : List UInt8) : Option (List Int × Int) := s.foldlM chS q
def parseA (s : List UInt8) : Option Nat := if s = [45] then some 0 else ((runS ([], -1) s).bind sepS).map fun q => ofN q.1
def rising (l : List Int) : Prop := l.Pairwise (fun x y => x < y)
theorem idsTo_rising (a n : Nat) : rising (idsTo a n) := by
  unfold rising idsTo
  rw [List.pairwise_map]
  refine List.Pairwise.imp (fun {x y} (h : x < y) => by omega) (List.Pairwise.filter _ List.pairwise_lt_range)
theorem ids_ofN {l : List Int} (h : ∀ x ∈ l, okJ x = true) (hr : rising l) : idsL (ofN l) = l := by
  refine Fld.sorted_eq (fun x : Int => x) (idsTo_rising _ _) hr fun x => ?_
  unfold idsL
  rw [mem_ids]
  constructor
  · rintro ⟨h1, h2, h3⟩
    rw [ofN_bit, List.any_eq_true] at h3
    obtain ⟨y, hy, e⟩ := h3
    have := okI_iff.1 (h y hy)
    have := beq_iff_eq.1 e
    rw [show x = y by omega]
    exact hy
  · intro hx
    have := okI_iff.1 (h x hx)
    exact ⟨this.1, this.2, by rw [ofN_bit, List.any_eq_true]; exact ⟨x, hx, beq_iff_eq.2 rfl⟩⟩
theorem isB_ext {a b : Nat} (ha : isB a = true) (hb : isB b = true) (ha2 : a < 4294967296) (hb2 : b < 4294967296) (h : idsL a = idsL b) : a = b := by
  rw [isB_iff] at ha hb
  refine Nat.eq_of_testBit_eq fun i => ?_
  by_cases hi : i < 32
  · have key : ∀ {p q : Nat}, (∀ i, i < 32 → p.testBit i = true → 1 ≤ i ∧ i ≤ 24) → idsL p = idsL q → p.testBit i = true → q.testBit i = true := fun {p q} hp e ht => by
      obtain ⟨h1, h2⟩ := hp i hi ht
      have hm : (i : Int) ∈ idsL p := mem_ids.2 ⟨by omega, by omega, ht⟩
      rw [e] at hm
      exact (mem_ids.1 hm).2.2
    cases h1 : a.testBit i with
    | true => exact (key ha h h1).symm
    | false =>
      cases h2 : b.testBit i with
      | false => rfl
      | true => rw [key hb h.symm h2] at h1; cases h1
  · have big : ∀ {p : Nat}, p < 4294967296 → p.testBit i = false := fun {p} hp => Nat.testBit_lt_two_pow (Nat.lt_of_lt_of_le hp (show 2 ^ 32 ≤ 2 ^ i from Nat.pow_le_pow_right (by decide) (by omega)))
    rw [big ha2, big hb2]
theorem idsL_ok {a : Nat} : ∀ x ∈ idsL a, 1 ≤ x ∧ x ≤ 24 := fun x hx => by
  obtain ⟨h1, h2, _⟩ := mem_ids.1 hx
  exact ⟨h1, by omega⟩
theorem ofN_ids {a : Nat} (h : isB a = true) (h2 : a < 4294967296) : ofN (idsL a) = a := by
  have hok : ∀ x ∈ idsL a, okJ x = true := fun x hx => okI_iff.2 (idsL_ok x hx)
  exact isB_ext (ofN_isB hok) h (by have := ofN_lt hok; omega) h2 (ids_ofN hok (idsTo_rising a 24))
def preT (ids : List Int) : List UInt8 := (txF ids).1 ++ if ids = [] then [] else [43]
def digT (n : Int) : List UInt8 := if n < 0 then [] else Lib.itoa n
structure Rd (p : List UInt8) (q : List Int × Int) : Prop where
  text : p = preT q.1 ++ digT q.2
  ids : ∀ y ∈ q.1, 1 ≤ y ∧ y ≤ 24
  rise : rising q.1
  num : q.2 = -1 ∨ (1 ≤ q.2 ∧ q.2 ≤ 999)
end Go.Lg.Sg
end
section
namespace Go.Lg.Sg
open Go Go.Lg
theorem take_cons {α : Type} {l : List α} {i : Nat} {x : α} (h : l[i]? = some x) : l = l.take i ++ x :: l.drop (i + 1) := by
  obtain ⟨hi, e⟩ := List.getElem?_eq_some_iff.1 h
  rw [← e, ← List.drop_eq_getElem_cons hi, List.take_append_drop]
end Go.Lg.Sg
namespace Go.Proofs.YtbpdbclndfmcgaaGreatDoor
open Go Go.Lg Go.Lg.Fld Go.Lg.Sg
set_option maxRecDepth 100000
variable (X : Nat → Option Obj)
end Go.Proofs.YtbpdbclndfmcgaaGreatDoor
end
section
namespace Go.Lg.Sg
open Go Go.Lg Go.Lg.Fld
def withN (a : Nat) (id : Int) : Nat := if okJ id = true then a ||| 2 ^ id.toNat else a
def withinB (a b : Nat) : Bool := (idsL a).all (hasB b)
def twiceTo (l : List Int) (n : Nat) : Bool := (List.range n).any fun k => match l[k]? with | some x => (l.take k).any (fun y => y == x) | none => false
def ofE (ids : List Int) : Int := if okIds ids = true then 0 else 1
def prE (ids : List Int) : Int := if okIds ids = true then (if twiceTo ids ids.length = true then 7 else 0) else 1
def prN (ids : List Int) : Nat := if prE ids = 0 then ofN ids else 0
theorem lt32_of_bits {a : Nat} (h : ∀ j, 32 ≤ j → a.testBit j = false) : a < 4294967296 := Nat.lt_pow_two_of_testBit (n := 32) _ h
theorem bits32 {a : Nat} (h : a < 4294967296) {j : Nat} (hj : 32 ≤ j) : a.testBit j = false := Nat.testBit_lt_two_pow (Nat.lt_of_lt_of_le h (show 2 ^ 32 ≤ 2 ^ j from Nat.pow_le_pow_right (by decide) hj))
end Go.Lg.Sg
end
section
namespace Go.Lg.Sg
open Go Go.Lg Go.Lg.Fld
def allN : Nat := 33554430
theorem allN_bit (j : Nat) : allN.testBit j = (decide (1 ≤ j) && decide (j ≤ 24)) := by
  by_cases h : j < 32
  · have hd : ∀ k : Fin 32, allN.testBit k.val = (decide (1 ≤ k.val) && decide (k.val ≤ 24)) := by decide
    exact hd ⟨j, h⟩
  · rw [Nat.testBit_lt_two_pow (Nat.lt_of_lt_of_le (show allN < 2 ^ 32 by decide) (Nat.pow_le_pow_right (by decide) (by omega))), decide_eq_false (show ¬ j ≤ 24 by omega), Bool.and_false]
theorem nz_bit {x : Nat} : x ≠ 0 ↔ ∃ j, x.testBit j = true := by
  constructor
  · intro h
    by_cases he : ∃ j, x.testBit j = true
    · exact he
    · refine absurd (Nat.eq_of_testBit_eq fun i => ?_) h
      rw [Nat.zero_testBit]
      cases hb : x.testBit i with
      | false => rfl
      | true => exact absurd ⟨i, hb⟩ he
  · rintro ⟨j, hj⟩ rfl
    rw [Nat.zero_testBit] at hj
    cases hj
theorem ne0_is {x : Nat} {b : Bool} (h : b = true ↔ ∃ j, x.testBit j = true) : ((((x : Nat) : Int) != 0)) = b := by
  rw [Bool.eq_iff_iff, bne_iff_ne, h, ← nz_bit]
  omega
theorem eq0_is {x : Nat} {b : Bool} (h : b = false ↔ ∃ j, x.testBit j = true) : ((((x : Nat) : Int) == 0)) = b := by
  rw [← nz_bit] at h
  by_cases hx : x = 0
  · subst hx
    cases b with
    | true => rfl
    | false => exact absurd rfl (h.1 rfl)
  · rw [h.2 hx, beq_eq_false_iff_ne.2 (by omega)]
theorem andN_32 {a b : Nat} (ha : a < 4294967296) (hb : b < 4294967296) : bits .and .u32 ((a : Nat) : Int) ((b : Nat) : Int) = ((a &&& b : Nat) : Int) := u32_and_nat _ _ ha hb
theorem orN_32 {a b : Nat} (ha : a < 4294967296) (hb : b < 4294967296) : bits .or .u32 ((a : Nat) : Int) ((b : Nat) : Int) = ((a ||| b : Nat) : Int) := u32_or_nat _ _ ha hb
theorem notN_bit (a b i : Nat) : (a ^^^ (a &&& b)).testBit i = (a.testBit i && !b.testBit i) := by
  rw [Nat.testBit_xor, Nat.testBit_and]
  cases a.testBit i <;> cases b.testBit i <;> rfl
theorem notN_lt {a b : Nat} (ha : a < 4294967296) : a ^^^ (a &&& b) < 4294967296 := lt32_of_bits fun j hj => by
  rw [notN_bit, bits32 ha hj, Bool.false_and]
theorem notN_bits {a b : Nat} (ha : a < 4294967296) : (BitVec.ofNat 32 a &&& ~~~ BitVec.ofNat 32 b).toNat = a ^^^ (a &&& b) := by
  apply Nat.eq_of_testBit_eq
  intro i
  rw [BitVec.testBit_toNat, BitVec.getLsbD_and, BitVec.getLsbD_not, BitVec.getLsbD_ofNat, BitVec.getLsbD_ofNat, notN_bit]
  by_cases hi : i < 32
  · simp [hi]
  · have h := bits32 ha (show 32 ≤ i by omega)
    simp [hi, h]
theorem notN_32 {a b : Nat} (ha : a < 4294967296) : bits .andNot .u32 ((a : Nat) : Int) ((b : Nat) : Int) = ((a ^^^ (a &&& b) : Nat) : Int) := by
  have h1 : bits .andNot .u32 ((a : Nat) : Int) ((b : Nat) : Int) = IntKind.u32.wrap (((BitVec.ofNat 32 a &&& ~~~ BitVec.ofNat 32 b).toNat : Nat) : Int) := rfl
  rw [h1, notN_bits ha]
  have := notN_lt (b := b) ha
  exact wrap_u32 ⟨Int.natCast_nonneg _, by omega⟩
def bitN (id : Int) : Nat := if okJ id = true then 2 ^ id.toNat else 0
theorem bitN_bit (id : Int) (j : Nat) : (bitN id).testBit j = (okJ id && decide (id.toNat = j)) := by
  unfold bitN
  by_cases h : okJ id = true
  · rw [if_pos h, h, Nat.testBit_two_pow, Bool.true_and]
  · rw [if_neg h, show okJ id = false by simpa using h, Nat.zero_testBit, Bool.false_and]
theorem bitN_lt (id : Int) : bitN id < 4294967296 := lt32_of_bits fun j hj => by
  rw [bitN_bit]
  by_cases ho : okJ id = true
  · have := okI_iff.1 ho
    rw [decide_eq_false (by omega), Bool.and_false]
  · rw [show okJ id = false by simpa using ho, Bool.false_and]
theorem shl_bit {id : Int} (h : okJ id = true) : IntKind.u32.wrap (1 * 2 ^ (min id.toNat IntKind.u32.bits)) = ((bitN id : Nat) : Int) := by
  have hi := okI_iff.1 h
  have hm : min id.toNat IntKind.u32.bits = id.toNat := by
    show min id.toNat 32 = id.toNat
    omega
  have hb := bitN_lt id
  have he : bitN id = 2 ^ id.toNat := if_pos h
  rw [he] at hb ⊢
  rw [hm, Int.one_mul, show ((2 : Int) ^ id.toNat) = ((2 ^ id.toNat : Nat) : Int) by rw [Int.natCast_pow]; rfl]
  exact wrap_u32 ⟨Int.natCast_nonneg _, by omega⟩
theorem is_bits {a : Nat} (ha : a < 4294967296) : ((((a ^^^ (a &&& allN) : Nat) : Int)) == 0) = isB a := by
  refine eq0_is ?_
  constructor
  · intro h
    have hn : ¬ isB a = true := by rw [h]; decide
    rw [isB_iff] at hn
    simp only [Classical.not_forall] at hn
    obtain ⟨i, hi, hb, hno⟩ := hn
    refine ⟨i, ?_⟩
    rw [notN_bit, hb, allN_bit]
    by_cases h1 : 1 ≤ i
    · rw [decide_eq_false (show ¬ i ≤ 24 by omega), Bool.and_false]; rfl
    · rw [decide_eq_false h1]; rfl
  · rintro ⟨j, hj⟩
    rw [notN_bit, allN_bit, Bool.and_eq_true] at hj
    cases hb : isB a with
    | false => rfl
    | true =>
      rw [isB_iff] at hb
      have hj32 : j < 32 := by
        by_cases h : j < 32
        · exact h
        · rw [bits32 ha (by omega)] at hj; cases hj.1
      obtain ⟨h1, h2⟩ := hb j hj32 hj.1
      rw [decide_eq_true h1, decide_eq_true h2] at hj
      cases hj.2
theorem has_bits (a : Nat) (id : Int) : ((((a &&& bitN id : Nat) : Int)) != 0) = hasB a id := by
  refine ne0_is ?_
  unfold hasB
  constructor
  · intro h
    rw [Bool.and_eq_true] at h
    exact ⟨id.toNat, by rw [Nat.testBit_and, bitN_bit, h.1, h.2, decide_eq_true rfl]; rfl⟩
  · rintro ⟨j, hj⟩
    rw [Nat.testBit_and, bitN_bit, Bool.and_eq_true, Bool.and_eq_true] at hj
    obtain ⟨h1, h2, h3⟩ := hj
    rw [h2, of_decide_eq_true h3, h1]; rfl
theorem with_bits (a : Nat) (id : Int) : a ||| bitN id = withN a id := by
  unfold bitN withN
  by_cases h : okJ id = true
  · rw [if_pos h, if_pos h]
  · rw [if_neg h, if_neg h, Nat.or_zero]
theorem within_bits (a b : Nat) : (((((a &&& allN) ^^^ ((a &&& allN) &&& b) : Nat) : Int)) == 0) = withinB a b := by
  refine eq0_is ?_
  unfold withinB
  rw [List.all_eq_false]
  constructor
  · rintro ⟨x, hx, hn⟩
    obtain ⟨h1, h2, h3⟩ := mem_ids.1 hx
    refine ⟨x.toNat, ?_⟩
    have ho : okJ x = true := okI_iff.2 ⟨h1, by omega⟩
    unfold hasB at hn
    rw [ho, Bool.true_and] at hn
    rw [notN_bit, Nat.testBit_and, allN_bit, h3, decide_eq_true (show 1 ≤ x.toNat by omega), decide_eq_true (show x.toNat ≤ 24 by omega), show b.testBit x.toNat = false by simpa using hn]
    rfl
  · rintro ⟨j, hj⟩
    rw [notN_bit, Nat.testBit_and, allN_bit, Bool.and_eq_true, Bool.and_eq_true, Bool.and_eq_true] at hj
    obtain ⟨⟨h1, h2, h3⟩, h4⟩ := hj
    have h2 := of_decide_eq_true h2
    have h3 := of_decide_eq_true h3
    refine ⟨(j : Int), mem_ids.2 ⟨by omega, by omega, h1⟩, ?_⟩
    unfold hasB
    rw [show ((j : Int)).toNat = j from rfl]
    cases hb : b.testBit j with
    | false => rw [Bool.and_false]; decide
    | true => rw [hb] at h4; cases h4
def cntB (x : Nat) : Nat := (List.range 32).countP x.testBit
def pc8 (x : Nat) : Nat := (List.range 8).countP x.testBit
theorem pc8_le (x : Nat) : pc8 x ≤ 8 := Nat.le_trans List.countP_le_length (by rw [List.length_range]; exact Nat.le_refl _)
theorem countP_range_add (p : Nat → Bool) (a b : Nat) : (List.range (a + b)).countP p = (List.range a).countP p + (List.range b).countP (fun j => p (a + j)) := by
  rw [List.range_add, List.countP_append, List.countP_map]
  rfl
theorem countP_range_congr {p q : Nat → Bool} {n : Nat} (h : ∀ j, j < n → p j = q j) : (List.range n).countP p = (List.range n).countP q :=
  List.countP_congr fun x hx => by rw [h x (List.mem_range.1 hx)]
theorem pc8_part (x k : Nat) : pc8 (x / 2 ^ k % 256) = (List.range 8).countP (fun j => x.testBit (k + j)) := by
  refine countP_range_congr fun j hj => ?_
  rw [show (256 : Nat) = 2 ^ 8 from rfl, Nat.testBit_mod_two_pow, decide_eq_true hj, Bool.true_and, Nat.testBit_div_two_pow, Nat.add_comm]
theorem cntB_parts {x : Nat} (hx : x < 4294967296) : pc8 (x / 16777216) + pc8 (x / 65536 % 256) + pc8 (x / 256 % 256) + pc8 (x % 256) = cntB x := by
  have h3 := pc8_part x 24
  have h2 := pc8_part x 16
  have h1 := pc8_part x 8
  have h0 := pc8_part x 0
  rw [show x / 2 ^ 24 % 256 = x / 16777216 from Nat.mod_eq_of_lt (by omega)] at h3
  rw [show x / 2 ^ 0 % 256 = x % 256 by rw [Nat.pow_zero, Nat.div_one]] at h0
  rw [h3, show x / 65536 % 256 = x / 2 ^ 16 % 256 from rfl, h2, show x / 256 % 256 = x / 2 ^ 8 % 256 from rfl, h1, h0]
  unfold cntB
  rw [show 32 = 8 + (8 + (8 + 8)) from rfl, countP_range_add, countP_range_add, countP_range_add]
  have e0 : (List.range 8).countP (fun j => x.testBit (0 + j)) = (List.range 8).countP x.testBit := countP_range_congr fun j _ => by rw [Nat.zero_add]
  have e2 : (List.range 8).countP (fun j => x.testBit (16 + j)) = (List.range 8).countP (fun j => x.testBit (8 + (8 + j))) := countP_range_congr fun j _ => by rw [show 16 + j = 8 + (8 + j) by omega]
  have e3 : (List.range 8).countP (fun j => x.testBit (24 + j)) = (List.range 8).countP (fun j => x.testBit (8 + (8 + (8 + j)))) := countP_range_congr fun j _ => by rw [show 24 + j = 8 + (8 + (8 + j)) by omega]
  rw [e0, e2, e3]
  omega
theorem cnt_ids (a : Nat) : cntB (a &&& allN) = (idsL a).length := by
  unfold cntB idsL idsTo
  rw [List.length_map, ← List.countP_eq_length_filter, show 32 = 1 + (24 + 7) from rfl, countP_range_add, countP_range_add]
  have e0 : (List.range 1).countP (a &&& allN).testBit = 0 := by
    rw [List.countP_eq_zero]
    intro j hj
    have := List.mem_range.1 hj
    rw [Nat.testBit_and, allN_bit, decide_eq_false (show ¬ 1 ≤ j by omega)]
    simp
  have e2 : (List.range 7).countP (fun j => (a &&& allN).testBit (1 + (24 + j))) = 0 := by
    rw [List.countP_eq_zero]
    intro j _
    rw [Nat.testBit_and, allN_bit, decide_eq_false (show ¬ 1 + (24 + j) ≤ 24 by omega)]
    simp
  have e1 : (List.range 24).countP (fun j => (a &&& allN).testBit (1 + j)) = (List.range 24).countP (fun j => a.testBit (j + 1)) := countP_range_congr fun j hj => by
    rw [Nat.testBit_and, allN_bit, decide_eq_true (show 1 ≤ 1 + j by omega), decide_eq_true (show 1 + j ≤ 24 by omega), Bool.and_self, Bool.and_true, Nat.add_comm]
  rw [e0, e1, e2]
  omega
theorem ofN_snoc (l : List Int) (x : Int) : ofN (l ++ [x]) = ofN l ||| 2 ^ x.toNat := by
  unfold ofN
  rw [List.foldl_append]
  rfl
theorem with_snoc {l : List Int} {x : Int} (h : okJ x = true) : withN (ofN l) x = ofN (l ++ [x]) := by
  rw [ofN_snoc]
  exact if_pos h
theorem okIds_no {l : List Int} {i : Nat} {x : Int} (hx : l[i]? = some x) (h : okJ x = false) : okIds l = false := by
  unfold okIds
  rw [List.all_eq_false]
  exact ⟨x, List.mem_of_getElem? hx, by rw [h]; decide⟩
theorem sub_len : ∀ {l1 l2 : List Int}, l1.Nodup → (∀ x ∈ l1, x ∈ l2) → l1.length ≤ l2.length
  | [], _, _, _ => Nat.zero_le _
  | x :: t, l2, hn, hs => by
    rw [List.nodup_cons] at hn
    have hx := hs x (List.mem_cons_self ..)
    have h1 : t.length ≤ (l2.erase x).length := sub_len hn.2 fun y hy => by
      have hne : y ≠ x := fun e => hn.1 (e ▸ hy)
      exact (List.mem_erase_of_ne hne).2 (hs y (List.mem_cons_of_mem _ hy))
    have h2 := List.length_erase_of_mem hx
    have h3 := List.length_pos_of_mem hx
    rw [List.length_cons]
    omega
theorem idsTo_nodup (a n : Nat) : (idsTo a n).Nodup := (idsTo_rising a n).imp fun {x y} (h : x < y) => by omega
theorem mem_ofN {l : List Int} (h : okIds l = true) (x : Int) : x ∈ idsL (ofN l) ↔ x ∈ l := by
  have hok : ∀ y ∈ l, okJ y = true := List.all_eq_true.1 h
  unfold idsL
  rw [mem_ids]
  constructor
  · rintro ⟨h1, h2, h3⟩
    rw [ofN_bit, List.any_eq_true] at h3
    obtain ⟨y, hy, e⟩ := h3
    have := okI_iff.1 (hok y hy)
    have := beq_iff_eq.1 e
    rw [show x = y by omega]
    exact hy
  · intro hx
    have := okI_iff.1 (hok x hx)
    exact ⟨this.1, this.2, by rw [ofN_bit, List.any_eq_true]; exact ⟨x, hx, beq_iff_eq.2 rfl⟩⟩
theorem twice_len {l : List Int} (h : okIds l = true) : ((((idsL (ofN l)).length : Nat) : Int) != ((l.length : Nat) : Int)) = twiceTo l l.length := by
  have hm := mem_ofN h
  have h1 : (idsL (ofN l)).length ≤ l.length := sub_len (idsTo_nodup _ _) fun x hx => (hm x).1 hx
  cases ht : twiceTo l l.length with
  | true =>
    unfold twiceTo at ht
    rw [List.any_eq_true] at ht
    obtain ⟨k, hk, hc⟩ := ht
    have hk := List.mem_range.1 hk
    obtain ⟨x, hx⟩ : ∃ x, l[k]? = some x := ⟨_, List.getElem?_eq_getElem hk⟩
    rw [hx] at hc
    have hc : ((l.take k).any fun y => y == x) = true := hc
    rw [List.any_eq_true] at hc
    obtain ⟨y, hy, e⟩ := hc
    have e := beq_iff_eq.1 e
    subst e
    have hl : l = l.take k ++ y :: l.drop (k + 1) := take_cons hx
    have h2 : (idsL (ofN l)).length ≤ (l.take k ++ l.drop (k + 1)).length := sub_len (idsTo_nodup _ _) fun z hz => by
      have hz := (hm z).1 hz
      rw [hl] at hz
      rcases List.mem_append.1 hz with hz | hz
      · exact List.mem_append_left _ hz
      · rcases List.mem_cons.1 hz with rfl | hz
        · exact List.mem_append_left _ hy
        · exact List.mem_append_right _ hz
    rw [List.length_append, List.length_take, List.length_drop] at h2
    rw [bne_iff_ne]
    omega
  | false =>
    have hn : l.Nodup := by
      unfold List.Nodup
      rw [List.pairwise_iff_getElem]
      intro i j hi hj hij e
      unfold twiceTo at ht
      rw [List.any_eq_false] at ht
      refine ht j (List.mem_range.2 hj) ?_
      rw [List.getElem?_eq_getElem hj]
      show ((l.take j).any fun y => y == l[j]) = true
      rw [List.any_eq_true]
      exact ⟨l[i], List.mem_iff_getElem?.2 ⟨i, by rw [List.getElem?_take, if_pos hij, List.getElem?_eq_getElem hi]⟩, beq_iff_eq.2 e⟩
    have h2 : l.length ≤ (idsL (ofN l)).length := sub_len hn fun x hx => (hm x).2 hx
    rw [bne_eq_false_iff_eq]
    omega
def Unread (s : List UInt8) (ids : List Int) (l : List UInt8) : Prop := (runS ([], -1) s).bind sepS = (runS (ids, -1) l).bind sepS
def cutM (s : List UInt8) : Bool := decide (0 ≤ Lib.indexByte s 43)
end Go.Lg.Sg
end
section
namespace Go.Lg.Sg
open Go Go.Lg Go.Lg.Fld
theorem okI_eq (id : Int) : okJ id = (decide (1 ≤ id) && decide (id ≤ 24)) := rfl
def popB (i : Nat) : UInt8 := UInt8.ofNat (pc8 i)
theorem popB_nat (i : Nat) : (popB i).toNat = pc8 i := by
  unfold popB
  have := pc8_le i
  rw [UInt8.toNat_ofNat']
  omega
end Go.Lg.Sg
namespace Go.Proofs.YtbpdbclndfmcgaaGreatDoor
open Go Go.Lg Go.Lg.Fld Go.Lg.Sg
set_option maxRecDepth 100000
variable (X : Nat → Option Obj)
theorem zIsId (id : Int) : PSpec Tryz.prog X 96 [Ln .i64 id] (Lb (okJ id)) := by
  refine PSpec.intro Tryz.func96 rfl (by kernel_rfl) rfl rfl ?_
  intro C
  by_cases h1 : 1 ≤ id
  · rw [okI_eq, decide_eq_true h1, Bool.true_and]
    (refine LWP.seq <| rgN <| kas rfl <| RunK.nil <| LWP.seq <| rgN <| kmv rfl <| K.geq rfl rfl (decide_eq_true h1) .plain <| kmv rfl <| gmv rfl rfl rfl <| K.leq rfl rfl (r := decide (id ≤ 24)) rfl (.taken rfl rfl) ?_; refine kpt rfl rfl <| kas rfl <| RunK.nil <| LWP.ret ?_)
    exact ⟨[_], ⟨rfl, trivial⟩, rfl⟩
  · rw [okI_eq, decide_eq_false h1, Bool.false_and]
    (refine LWP.seq <| rgN <| kas rfl <| RunK.nil <| LWP.seq <| rgN <| kmv rfl <| K.geq rfl rfl (decide_eq_false h1) .plain <| kmv rfl <| RunK.passed rfl rfl rfl <| RunK.passed rfl rfl rfl <| kpf rfl rfl <| kas rfl <| RunK.nil ?_; refine LWP.ret ?_)
    exact ⟨[_], ⟨rfl, trivial⟩, rfl⟩
theorem zBit (id : Int) : PSpec Tryz.prog X 98 [Ln .i64 id] (Ln .u32 (bitN id : Nat)) := by
  have hI := zIsId X id
  refine PSpec.intro Tryz.func98 rfl (by kernel_rfl) rfl rfl ?_
  intro C
  cases h : okJ id with
  | false =>
    have hz : bitN id = 0 := if_neg (by rw [h]; decide)
    rw [h] at hI
    rw [hz]
    (refine LWP.seq <| rgN <| kas rfl <| RunK.nil <| LWP.seq <| LWP.seq <| rgN <| kmv rfl <| kca rfl rfl (hI) <| K.not rfl rfl .plain <| RunK.nil <| LWP.condT rfl ?_; refine LWP.seq <| rgN <| kas rfl <| RunK.nil <| LWP.ret ?_)
    exact ⟨[_], ⟨rfl, trivial⟩, rfl⟩
  | true =>
    have hs := shl_bit h
    have h0 := (okI_iff.1 h).1
    rw [h] at hI
    generalize bitN id = b at *
    (refine LWP.seq <| rgN <| kas rfl <| RunK.nil <| LWP.seq <| LWP.seq <| rgN <| kmv rfl <| kca rfl rfl (hI) <| K.not rfl rfl .plain <| RunK.nil <| LWP.condF rfl ?_; refine LWP.skip ?_; refine LWP.seq <| rgN <| kmv rfl <| K.shl rfl rfl (by omega) hs .plain <| kas rfl <| RunK.nil <| LWP.ret ?_)
    exact ⟨[_], ⟨rfl, trivial⟩, rfl⟩
section
variable (a b : Nat) (ha : a < 4294967296) (hb : b < 4294967296) (id : Int)
include ha
theorem gIs : PSpec Tryz.prog X 68 [Ln .u32 (a : Nat)] (Lb (isB a)) := by
  have h1 := notN_32 (b := allN) ha
  have h2 := is_bits ha
  refine PSpec.intro Tryz.func68 rfl (by kernel_rfl) rfl rfl ?_
  intro C
  generalize a ^^^ (a &&& allN) = c at *
  (refine LWP.seq <| rgN <| kas rfl <| RunK.nil <| LWP.seq <| rgN <| kmv rfl <| K.bitop (by simp) rfl rfl h1 .plain <| keq rfl rfl h2 <| kas rfl <| RunK.nil <| LWP.ret ?_)
  exact ⟨[_], ⟨rfl, trivial⟩, rfl⟩
theorem gHas : PSpec Tryz.prog X 72 [Ln .u32 (a : Nat), Ln .i64 id] (Lb (hasB a id)) := by
  have h1 := andN_32 ha (bitN_lt id)
  have h2 := has_bits a id
  have hB := zBit X id
  refine PSpec.intro Tryz.func72 rfl (by kernel_rfl) rfl rfl ?_
  intro C
  generalize a &&& bitN id = c at *
  generalize bitN id = d at *
  (refine LWP.seq <| rgN <| kas rfl <| RunK.nil <| LWP.seq <| rgN <| kmv rfl <| kmv rfl <| kca rfl rfl (hB) <| K.bitop (by simp) rfl rfl h1 .plain <| kne rfl rfl h2 <| kas rfl <| RunK.nil <| LWP.ret ?_)
  exact ⟨[_], ⟨rfl, trivial⟩, rfl⟩
theorem gWith : PSpec Tryz.prog X 97 [Ln .u32 (a : Nat), Ln .i64 id] (Ln .u32 (withN a id : Nat)) := by
  have h1 := orN_32 ha (bitN_lt id)
  rw [with_bits] at h1
  have hB := zBit X id
  refine PSpec.intro Tryz.func97 rfl (by kernel_rfl) rfl rfl ?_
  intro C
  generalize withN a id = c at *
  generalize bitN id = d at *
  (refine LWP.seq <| rgN <| kas rfl <| RunK.nil <| LWP.seq <| rgN <| kmv rfl <| kmv rfl <| kca rfl rfl (hB) <| K.bitop (by simp) rfl rfl h1 .plain <| kas rfl <| RunK.nil <| LWP.ret ?_)
  exact ⟨[_], ⟨rfl, trivial⟩, rfl⟩
theorem gWithin (_ : b < 4294967296) : PSpec Tryz.prog X 69 [Ln .u32 (a : Nat), Ln .u32 (b : Nat)] (Lb (withinB a b)) := by
  have h1 := andN_32 ha (show allN < 4294967296 by decide)
  have hm : a &&& allN < 4294967296 := Nat.lt_of_le_of_lt Nat.and_le_left ha
  have h2 := notN_32 (b := b) hm
  have h3 := within_bits a b
  refine PSpec.intro Tryz.func69 rfl (by kernel_rfl) rfl rfl ?_
  intro C
  generalize (a &&& allN) ^^^ ((a &&& allN) &&& b) = d at *
  generalize a &&& allN = c at *
  (refine LWP.seq <| rgN <| kas rfl <| RunK.nil <| LWP.seq <| rgN <| kmv rfl <| K.bitop (by simp) rfl rfl h1 .plain <| kmv rfl <| K.bitop (by simp) rfl rfl h2 .plain <| keq rfl rfl h3 <| kas rfl <| RunK.nil <| LWP.ret ?_)
  exact ⟨[_], ⟨rfl, trivial⟩, rfl⟩
include hb
end
end Go.Proofs.YtbpdbclndfmcgaaGreatDoor
end
section
namespace Go.Lg.Sg
open Go Go.Lg Go.Lg.Fld
def popT : ByteArray := ⟨((([0, 1, 1, 2, 1, 2, 2, 3, 1, 2, 2, 3, 2, 3, 3, 4, 1, 2, 2, 3, 2, 3, 3, 4, 2, 3, 3, 4, 3, 4, 4, 5, 1, 2, 2, 3, 2, 3, 3, 4, 2, 3, 3, 4, 3, 4, 4, 5, 2, 3, 3, 4, 3, 4, 4, 5, 3, 4, 4, 5, 4, 5, 5, 6] : List UInt8).append [1, 2, 2, 3, 2, 3, 3, 4, 2, 3, 3, 4, 3, 4, 4, 5, 2, 3, 3, 4, 3, 4, 4, 5, 3, 4, 4, 5, 4, 5, 5, 6, 2, 3, 3, 4, 3, 4, 4, 5, 3, 4, 4, 5, 4, 5, 5, 6, 3, 4, 4, 5, 4, 5, 5, 6, 4, 5, 5, 6, 5, 6, 6, 7]).append (([1, 2, 2, 3, 2, 3, 3, 4, 2, 3, 3, 4, 3, 4, 4, 5, 2, 3, 3, 4, 3, 4, 4, 5, 3, 4, 4, 5, 4, 5, 5, 6, 2, 3, 3, 4, 3, 4, 4, 5, 3, 4, 4, 5, 4, 5, 5, 6, 3, 4, 4, 5, 4, 5, 5, 6, 4, 5, 5, 6, 5, 6, 6, 7] : List UInt8).append [2, 3, 3, 4, 3, 4, 4, 5, 3, 4, 4, 5, 4, 5, 5, 6, 3, 4, 4, 5, 4, 5, 5, 6, 4, 5, 5, 6, 5, 6, 6, 7, 3, 4, 4, 5, 4, 5, 5, 6, 4, 5, 5, 6, 5, 6, 6, 7, 4, 5, 5, 6, 5, 6, 6, 7, 5, 6, 6, 7, 6, 7, 7, 8])).toArray⟩
theorem pop_fin : ∀ k : Fin 256, popT[k.val]? = some (popB k.val) := by decide +kernel
theorem pop_at {i : Nat} (h : i < 256) : popT[(((i : Nat) : Int)).toNat]? = some (popB i) := pop_fin ⟨i, h⟩
theorem pop_shr (x k : Nat) (hk : k < 32) : ((x : Nat) : Int).fdiv (2 ^ (min (Int.toNat (k : Int)) IntKind.u32.bits)) = ((x / 2 ^ k : Nat) : Int) := by
  have hm : min (Int.toNat (k : Int)) IntKind.u32.bits = k := by
    show min k 32 = k
    omega
  rw [hm, Int.fdiv_eq_ediv_of_nonneg _ (by have := Int.pow_pos (n := (2 : Int)) (m := k) (by decide); omega), Int.natCast_ediv, Int.natCast_pow]
  rfl
theorem pop_and {m : Nat} (h : m < 4294967296) : bits .and .u32 ((m : Nat) : Int) 255 = ((m % 256 : Nat) : Int) := by
  rw [show (255 : Int) = ((255 : Nat) : Int) from rfl, u32_and_nat _ _ h (by decide)]
  rw [show m &&& 255 = m % 256 from Nat.and_two_pow_sub_one_eq_mod m 8]
theorem pop_add {i j n : Nat} (h : i + j = n) (hn : n < 256) : IntKind.u8.wrap (((i : Nat) : Int) + ((j : Nat) : Int)) = ((n : Nat) : Int) := by
  rw [IntKind.wrap_u8]
  omega
end Go.Lg.Sg
namespace Go.Proofs.YtbpdbclndfmcgaaGreatDoor
open Go Go.Lg Go.Lg.Fld Go.Lg.Sg
set_option maxRecDepth 100000
variable (X : Nat → Option Obj)
set_option maxHeartbeats 1600000 in
theorem zOnes (x : Nat) (hx : x < 4294967296) : PSpec Tryz.prog X 117 [Ln .u32 (x : Nat)] (Ln .i64 (cntB x : Nat)) := by
  refine PSpec.intro Tryz.func117 rfl (by kernel_rfl) rfl rfl ?_
  intro C
  have hsum := cntB_parts hx
  have s3 := pop_shr x 24 (by decide)
  have s2 := pop_shr x 16 (by decide)
  have s1 := pop_shr x 8 (by decide)
  rw [show x / 2 ^ 24 = x / 16777216 from rfl] at s3
  rw [show x / 2 ^ 16 = x / 65536 from rfl] at s2
  rw [show x / 2 ^ 8 = x / 256 from rfl] at s1
  have a2 := pop_and (m := x / 65536) (by omega)
  have a1 := pop_and (m := x / 256) (by omega)
  have a0 := pop_and hx
  have p3 := pop_at (i := x / 16777216) (by omega)
  have p2 := pop_at (i := x / 65536 % 256) (by omega)
  have p1 := pop_at (i := x / 256 % 256) (by omega)
  have p0 := pop_at (i := x % 256) (by omega)
  have b3 := popB_nat (x / 16777216)
  have b2 := popB_nat (x / 65536 % 256)
  have b1 := popB_nat (x / 256 % 256)
  have b0 := popB_nat (x % 256)
  have l3 := pc8_le (x / 16777216)
  have l2 := pc8_le (x / 65536 % 256)
  have l1 := pc8_le (x / 256 % 256)
  have l0 := pc8_le (x % 256)
  rw [← b3, ← b2, ← b1, ← b0] at hsum
  rw [← b3] at l3
  rw [← b2] at l2
  rw [← b1] at l1
  rw [← b0] at l0
  have d1 := pop_add (i := (popB (x / 16777216)).toNat) (j := (popB (x / 65536 % 256)).toNat) rfl (by omega)
  have d2 := pop_add (i := (popB (x / 16777216)).toNat + (popB (x / 65536 % 256)).toNat) (j := (popB (x / 256 % 256)).toNat) rfl (by omega)
  have d3 := pop_add (i := (popB (x / 16777216)).toNat + (popB (x / 65536 % 256)).toNat + (popB (x / 256 % 256)).toNat) (j := (popB (x % 256)).toNat) hsum (by omega)
  have hcv : IntKind.i64.wrap ((cntB x : Nat) : Int) = ((cntB x : Nat) : Int) := wrap_i64 (by omega)
  generalize cntB x = n at *
  generalize popB (x / 16777216) = q3 at *
  generalize popB (x / 65536 % 256) = q2 at *
  generalize popB (x / 256 % 256) = q1 at *
  generalize popB (x % 256) = q0 at *
  have i3 : (0 : Int) ≤ ((x / 16777216 : Nat) : Int) := Int.natCast_nonneg _
  have i2 : (0 : Int) ≤ ((x / 65536 % 256 : Nat) : Int) := Int.natCast_nonneg _
  have i1 : (0 : Int) ≤ ((x / 256 % 256 : Nat) : Int) := Int.natCast_nonneg _
  have i0 : (0 : Int) ≤ ((x % 256 : Nat) : Int) := Int.natCast_nonneg _
  (refine LWP.seq <| rgN <| kas rfl <| RunK.nil <| LWP.seq <| rgD mixed <| kmv rfl <| K.shr rfl rfl (by decide) s3 .plain <| K.indexStr rfl rfl i3 p3 .plain <| kmv rfl <| K.shr rfl rfl (by decide) s2 .plain <| K.bitop (by simp) rfl rfl a2 .plain <| K.indexStr rfl rfl i2 p2 .plain <| kad rfl rfl d1 ?_; refine kmv rfl <| K.shr rfl rfl (by decide) s1 .plain <| K.bitop (by simp) rfl rfl a1 .plain <| K.indexStr rfl rfl i1 p1 .plain <| kad rfl rfl d2 <| kmv rfl <| K.bitop (by simp) rfl rfl a0 .plain <| K.indexStr rfl rfl i0 p0 .plain <| kad rfl rfl d3 <| kcv rfl hcv ?_; refine kas rfl <| RunK.nil <| rgA ?_; refine LWP.ret ?_)
  exact ⟨[_], ⟨rfl, trivial⟩, rfl⟩
theorem gLen (a : Nat) (ha : a < 4294967296) : PSpec Tryz.prog X 101 [Ln .u32 (a : Nat)] (Ln .i64 ((idsL a).length : Nat)) := by
  have h1 := andN_32 ha (show allN < 4294967296 by decide)
  have hm : a &&& allN < 4294967296 := Nat.lt_of_le_of_lt Nat.and_le_left ha
  have hO := zOnes X (a &&& allN) hm
  rw [cnt_ids] at hO
  refine PSpec.intro Tryz.func101 rfl (by kernel_rfl) rfl rfl ?_
  intro C
  generalize a &&& allN = c at *
  (refine LWP.seq <| rgN <| kas rfl <| RunK.nil <| LWP.seq <| rgN <| kmv rfl <| K.bitop (by simp) rfl rfl h1 .plain <| kca rfl rfl (hO) <| kas rfl <| RunK.nil <| LWP.ret ?_)
  exact ⟨[_], ⟨rfl, trivial⟩, rfl⟩
end Go.Proofs.YtbpdbclndfmcgaaGreatDoor
end
section
namespace Go.Proofs.YtbpdbclndfmcgaaGreatDoor
open Go Go.Lg Go.Lg.Fld Go.Lg.Sg
set_option maxRecDepth 100000
variable (X : Nat → Option Obj)
set_option maxHeartbeats 1600000 in
theorem gOf (ids : List Int) (ad : Option Addr) (cap : Nat) (hin : NuIn X ad ids) (hbig : ids.length < 4611686018427387904) :
    PSpec Tryz.prog X 66 [Vn ad ids.length cap] (.tup [Sn .u32 (ofA ids : Nat), Sn .i64 (ofE ids)]) := by
  refine PSpec.intro Tryz.func66 rfl (by kernel_rfl) rfl rfl ?_
  intro C
  (refine LWP.seq <| rgN <| kas rfl <| kas rfl <| RunK.nil <| LWP.seq <| rgN <| kas rfl <| RunK.nil <| LWP.seq <| LWP.seq <| rgN <| kmv rfl <| K.lenX rfl SliceT.h rfl .plain ?_; refine kmv rfl <| RunK.nil <| LWP.block ?_)
  refine LWP.loop (fun m σ => ∃ i : Nat, i ≤ ids.length ∧ m = ids.length - i ∧ (∀ id ∈ ids.take i, okJ id = true) ∧ σ = ⟨[(4, Ln .u32 (ofN (ids.take i) : Nat)), (7, Vn ad ids.length cap), (8, Ln .i64 (ids.length : Nat)), (9, Ln .i64 (i : Nat))], [], X⟩) ids.length
    ⟨⟨[(4, Ln .u32 (ofN (ids.take 0) : Nat)), (7, Vn ad ids.length cap), (8, Ln .i64 (ids.length : Nat)), (9, Ln .i64 (0 : Nat))], [], X⟩, Le.of (by exact ⟨rfl, rfl, rfl, rfl, trivial⟩) (by exact trivial) (by exact rfl) (by exact rfl) (by repeat' (first | refine all_cons_true ?_ ?_ | rfl | exact bytes_inUse | exact vals_inUse | exact mid_inUse rfl)), 0, by omega, rfl, fun id h => by simp at h, rfl⟩ ?_
  rintro m σ ⟨i, hi, rfl, hpre, rfl⟩
  by_cases hlt : i < ids.length
  · obtain ⟨x, hx⟩ : ∃ x, ids[i]? = some x := ⟨_, List.getElem?_eq_getElem hlt⟩
    obtain ⟨blk, off, arr, el, fr, rfl, hX, hc⟩ := hin.at hx
    have hio : off + Int.toNat (i : Int) * 1 = off + i * 1 := by simp
    have hI := zIsId X x
    cases hk : okJ x with
    | false =>
      have hno := okIds_no hx hk
      rw [show ofA ids = 0 by unfold ofA; rw [hno]; rfl, show ofE ids = 1 by unfold ofE; rw [hno]; rfl]
      rw [hk] at hI
      (refine LWP.seq <| rgN <| klt rfl rfl (decide_eq_true (by omega)) <| RunK.nil <| LWP.seq <| LWP.condT rfl ?_; refine LWP.skip ?_; refine LWP.seq <| LWP.block <| LWP.seq <| rgN <| K.indexX rfl rfl SliceT.h (by omega) hio .plain <| K.loadX rfl hX rfl hc .plain <| kas rfl <| RunK.nil <| LWP.seq <| LWP.seq <| rgN <| kmv rfl <| kca rfl rfl hI <| K.not rfl rfl .plain ?_; refine RunK.nil <| LWP.condT rfl ?_; refine LWP.seq <| rgN <| kas rfl <| kas rfl <| RunK.nil <| LWP.ret ?_)
      exact ⟨[_, _], ⟨rfl, rfl, trivial⟩, rfl⟩
    | true =>
      have hlt32 := ofN_lt hpre
      have hW := gWith X (ofN (ids.take i)) (by omega) x
      rw [with_snoc hk, ← take_snoc hx] at hW
      rw [hk] at hI
      have hadd : IntKind.i64.wrap (((i : Nat) : Int) + 1) = ((i + 1 : Nat) : Int) := by rw [wrap_i64 (by omega)]; omega
      (refine LWP.seq <| rgN <| klt rfl rfl (decide_eq_true (by omega)) <| RunK.nil <| LWP.seq <| LWP.condT rfl ?_; refine LWP.skip ?_; refine LWP.seq <| LWP.block <| LWP.seq <| rgN <| K.indexX rfl rfl SliceT.h (by omega) hio .plain <| K.loadX rfl hX rfl hc .plain <| kas rfl <| RunK.nil <| LWP.seq <| LWP.seq <| rgN <| kmv rfl <| kca rfl rfl hI <| K.not rfl rfl .plain ?_; refine RunK.nil <| LWP.condF rfl ?_; refine LWP.skip ?_; refine rgN <| kmv rfl <| kmv rfl <| kca rfl rfl hW <| kas rfl <| RunK.nil <| rgN <| kad rfl rfl hadd <| kmv rfl <| RunK.nil ?_)
      exact ⟨_, ⟨[(4, Ln .u32 (ofN (ids.take (i + 1)) : Nat)), (7, Vn (some ⟨blk, off, none⟩) ids.length cap), (8, Ln .i64 (ids.length : Nat)), (9, Ln .i64 (i + 1 : Nat))], [], X⟩, by omega, Le.of (by exact ⟨rfl, rfl, rfl, rfl, trivial⟩) (by exact trivial) (by exact rfl) (by exact rfl) (by repeat' (first | refine all_cons_true ?_ ?_ | rfl | exact bytes_inUse | exact vals_inUse | exact mid_inUse rfl)), i + 1, by omega, rfl, (fun id h => by
        rw [take_snoc hx] at h
        rcases List.mem_append.1 h with h | h
        · exact hpre id h
        · rw [List.mem_singleton.1 h]; exact hk), rfl⟩
  · have e : i = ids.length := by omega
    subst e
    rw [List.take_length] at hpre ⊢
    have hok : okIds ids = true := List.all_eq_true.2 hpre
    rw [show ofA ids = ofN ids from if_pos hok, show ofE ids = 0 from if_pos hok]
    (refine LWP.seq <| rgN <| klt rfl rfl (decide_eq_false (by omega)) <| RunK.nil <| LWP.seq <| LWP.condF rfl ?_; refine LWP.exit <| LWP.seq <| rgN <| kmv rfl <| kas rfl <| kas rfl <| RunK.nil <| LWP.ret ?_)
    exact ⟨[_, _], ⟨rfl, rfl, trivial⟩, rfl⟩
theorem of_lent {S : Nat → Option (Option Box)} {l : List Int} {k : Nat} {el : TypeId} {row : Bool} (hbig : l.length < 4611686018427387904) (hk : S k = some (some ⟨el, (nuV l).map .val, row⟩)) :
    ∀ (Y : Nat → Option Obj) (us : List Value), (∀ b o, X b = some o → Y b = some o) → LentLs S Y [.sv (.one (.slc k 0 l.length))] us → PSpec Tryz.prog Y 66 (us.map toLV) (.tup [Sn .u32 (ofA l : Nat), Sn .i64 (ofE l)]) := by
  intro Y us hY hL
  obtain ⟨u1, us1, rfl, ⟨b, blk, cap2, m, hk', rfl, hc, hfit, hB⟩, rfl⟩ := hL
  rw [hk] at hk'
  simp only [Option.some.injEq] at hk'
  subst hk'
  obtain ⟨arr, fr, us', sp, hYb, hsz, harr, hv⟩ := hB
  have := hv _ rfl
  subst this
  have hN : NuIn Y (some ⟨blk, 0, none⟩) l := by
    have hr := rows_frozen (X := Y) (blk := blk) (arr := arr) (el := el) (fr := fr) (sz := 1) (rows := l.map fun n => [Value.int .i64 n]) (fun r hr => by obtain ⟨x, _, rfl⟩ := List.mem_map.1 hr; rfl) ⟨sp, by rw [nu_flat]; exact harr⟩
    have e : withBlock Y blk (.cells arr el fr) = Y := by
      funext b
      unfold withBlock
      by_cases hb : b = blk
      · rw [if_pos hb, hb, hYb]
      · rw [if_neg hb]
    rw [e] at hr
    exact hr
  exact gOf Y l (some ⟨blk, 0, none⟩) cap2 hN hbig
abbrev ppSt (ad : Option Addr) (n cap : Nat) (ids : List Int) (i : Nat) (Y : Nat → Option Obj) : St :=
  ⟨[(0, Vn ad n cap), (4, .sv (.one (.slc 500 0 n))), (12, Vn ad n cap), (13, Ln .i64 (n : Nat)), (14, Ln .i64 (i : Nat))], [(500, some ⟨3, (nuV (ids.take i) ++ List.replicate (n - i) (Value.int .i64 0)).map .val, false⟩)], Y⟩
set_option maxHeartbeats 3200000 in
theorem gParts (ps : List Pt) (ad : Option Addr) (cap : Nat) (hin : PartsIn X ad ps) (hbig : ps.length ≤ 40) :
    PSpec Tryz.prog X 78 [Vn ad ps.length cap] (.tup [Sn .u32 (prN (ps.map fun p => p.comp) : Nat), Sn .i64 (prE (ps.map fun p => p.comp))]) := by
  have hmk : slcBuild Tryz.prog 58 ps.length = some (List.replicate ps.length (.int .i64 0), 1, 3) := slcBuild_one (by kernel_rfl) (by kernel_rfl) (by omega)
  refine PSpec.intro Tryz.func78 rfl (by kernel_rfl) rfl rfl ?_
  intro C
  have hil : (ps.map fun p => p.comp).length = ps.length := List.length_map _
  have hia : ∀ (i : Nat) (p : Pt), ps[i]? = some p → (ps.map fun p => p.comp)[i]? = some p.comp := fun i p h => by rw [List.getElem?_map, h]; rfl
  generalize (ps.map fun p => p.comp) = ids at *
  (refine LWP.seq <| rgN <| kas rfl <| kas rfl <| RunK.nil <| LWP.seq <| rgN <| kmv rfl <| K.lenX rfl SliceT.h rfl .plain ?_; refine K.makeSlc (m := ps.length) (bytes := 8) rfl rfl hmk (by kernel_rfl) (by omega) rfl rfl .plain <| kas rfl <| RunK.nil <| LWP.seq <| LWP.seq <| rgN <| kmv rfl <| K.lenX rfl SliceT.h rfl .plain ?_; refine kmv rfl <| RunK.nil <| LWP.block ?_)
  refine LWP.loop (fun m σ => ∃ i : Nat, i ≤ ps.length ∧ m = ps.length - i ∧ σ = ppSt ad ps.length cap ids i X) ps.length
    ⟨ppSt ad ps.length cap ids 0 X, Le.ofR [(500, 11)] (by exact ⟨rfl, rfl, rfl, rfl, rfl, trivial⟩) (by repeat' (first | exact trivial | refine And.intro ⟨_, rfl, ?_⟩ ?_ | refine And.intro ⟨_, rfl⟩ ?_ | rfl | exact Box.ren_bytes _ _ _ _ | exact Box.ren_vals _ _ _ _ | exact Box.ren_mid rfl)) (by exact rfl) (by exact rfl) (by repeat' (first | refine all_cons_true ?_ ?_ | rfl | exact bytes_inUse | exact vals_inUse | exact mid_inUse rfl)) (by exact rfl) (by exact rfl), 0, by omega, by omega, rfl⟩ ?_
  rintro m σ ⟨i, hi, rfl, rfl⟩
  by_cases hlt : i < ps.length
  · obtain ⟨p, hp⟩ : ∃ p, ps[i]? = some p := ⟨_, List.getElem?_eq_getElem hlt⟩
    obtain ⟨blk, off, arr, el, fr, vad, vcap, rfl, hX, hsz, hcs, _, _, hN⟩ := hin.get hp
    have hio : off + Int.toNat (i : Int) * 2 = off + i * 2 := by simp
    have hxi := hia i p hp
    have hpl : (nuV (ids.take i)).length = i := by unfold nuV; rw [List.length_map, List.length_take]; omega
    have hix : 0 + Int.toNat (i : Int) * 1 = i := by rw [Int.toNat_natCast]; omega
    have hroom : i + 1 ≤ ((nuV (ids.take i) ++ List.replicate (ps.length - i) (Value.int .i64 0)).map CV.val).length := by rw [List.length_map, List.length_append, hpl, List.length_replicate]; omega
    have hspl : splice ((nuV (ids.take i) ++ List.replicate (ps.length - i) (Value.int .i64 0)).map CV.val) i [.val (.int .i64 p.comp)] = (nuV (ids.take (i + 1)) ++ List.replicate (ps.length - (i + 1)) (Value.int .i64 0)).map CV.val := by
      rw [take_snoc hxi, show ps.length - i = (ps.length - (i + 1)) + 1 by omega, List.replicate_succ, show nuV (ids.take i ++ [p.comp]) = nuV (ids.take i) ++ [.int .i64 p.comp] by unfold nuV; simp]
      unfold splice
      simp only [List.map_append, List.append_assoc]
      have hml : ((nuV (ids.take i)).map CV.val).length = i := by rw [List.length_map, hpl]
      generalize (nuV (ids.take i)).map CV.val = R at *
      rw [← hml, List.take_left, List.drop_length_add_append]
      simp
    have hadd : IntKind.i64.wrap (((i : Nat) : Int) + 1) = ((i + 1 : Nat) : Int) := by rw [wrap_i64 (by omega)]; omega
    (refine LWP.seq <| rgN <| klt rfl rfl (decide_eq_true (by omega)) <| RunK.nil <| LWP.seq <| LWP.condT rfl ?_; refine LWP.skip ?_; refine LWP.seq <| LWP.block <| LWP.seq <| rgN <| kmv rfl <| K.indexX rfl rfl SliceT.h (by omega) hio .plain <| K.loadXagg rfl hX (by kernel_rfl) hsz hcs .plain <| K.alloc rfl .plain ?_; refine kas rfl <| K.storeAll rfl rfl rfl rfl rfl rfl .plain ?_; refine RunK.nil <| rgN <| kmv rfl <| kmv rfl <| kfa rfl rfl ?_; refine kl1 rfl rfl rfl <| K.indexSlc rfl rfl (by omega) hix .plain ?_; refine K.store rfl rfl rfl rfl (by kernel_rfl) hroom hspl .plain <| RunK.nil <| rgN <| kad rfl rfl hadd <| kmv rfl <| RunK.nil ?_)
    exact ⟨_, ppSt (some ⟨blk, off, none⟩) ps.length cap ids (i + 1) X, by omega, Le.of (by exact ⟨rfl, rfl, rfl, rfl, rfl, trivial⟩) (by exact ⟨rfl, trivial⟩) (by exact rfl) (by exact rfl) (by repeat' (first | refine all_cons_true ?_ ?_ | rfl | exact bytes_inUse | exact vals_inUse | exact mid_inUse rfl)), i + 1, by omega, rfl, rfl⟩
  · have e : i = ps.length := by omega
    subst e
    unfold ppSt
    rw [← hil, List.take_length, Nat.sub_self, List.replicate_zero, List.append_nil]
    have hO : ∀ {S : Nat → Option (Option Box)} {k : Nat} {el : TypeId} {row : Bool}, S k = some (some ⟨el, (nuV ids).map .val, row⟩) → ∀ (Y : Nat → Option Obj) (us : List Value), (∀ b o, X b = some o → Y b = some o) → LentLs S Y [.sv (.one (.slc k 0 ids.length))] us → PSpec Tryz.prog Y 66 (us.map toLV) (.tup [Sn .u32 (ofA ids : Nat), Sn .i64 (ofE ids)]) := fun hk => of_lent X (l := ids) (by omega) hk
    cases hk : okIds ids with
    | false =>
      have hE : ofE ids = 1 := by unfold ofE; rw [hk]; rfl
      have hA : ofA ids = 0 := by unfold ofA; rw [hk]; rfl
      rw [hE, hA] at hO
      have hP : prE ids = 1 := by unfold prE; rw [hk]; rfl
      rw [show prN ids = 0 by unfold prN; rw [hP]; rfl, hP]
      (refine LWP.seq <| rgN <| klt rfl rfl (decide_eq_false (by omega)) <| RunK.nil <| LWP.seq <| LWP.condF rfl ?_; refine LWP.exit <| LWP.seq <| rgN <| kmv rfl <| K.callL [500] rfl rfl rfl (hO rfl) .plain ?_; refine kmv rfl <| kex rfl rfl <| kex rfl rfl <| kas rfl <| kas rfl <| RunK.nil <| LWP.seq <| LWP.seq <| rgN <| kmv rfl <| keq rfl rfl (r := false) rfl <| kmv rfl <| RunK.passed rfl rfl rfl <| RunK.passed rfl rfl rfl ?_; refine RunK.passed rfl rfl rfl <| RunK.passed rfl rfl rfl <| RunK.passed rfl rfl rfl <| kpf rfl rfl <| RunK.nil <| LWP.condF rfl ?_; refine LWP.skip ?_; refine LWP.seq <| rgN <| kmv rfl <| kmv rfl <| kas rfl <| kas rfl <| RunK.nil <| LWP.ret ?_)
      exact ⟨[_, _], ⟨rfl, rfl, trivial⟩, rfl⟩
    | true =>
      have hE : ofE ids = 0 := if_pos hk
      have hA : ofA ids = ofN ids := if_pos hk
      rw [hE, hA] at hO
      have hok : ∀ id ∈ ids, okJ id = true := List.all_eq_true.1 hk
      have hlt := ofN_lt hok
      have hL := gLen X (ofN ids) (by omega)
      have hne := twice_len hk
      cases ht : twiceTo ids ids.length with
      | true =>
        have hP : prE ids = 7 := by unfold prE; rw [hk, ht]; rfl
        rw [show prN ids = 0 by unfold prN; rw [hP]; rfl, hP]
        rw [ht] at hne
        generalize (idsL (ofN ids)).length = q at *
        (refine LWP.seq <| rgN <| klt rfl rfl (decide_eq_false (by omega)) <| RunK.nil <| LWP.seq <| LWP.condF rfl ?_; refine LWP.exit <| LWP.seq <| rgN <| kmv rfl <| K.callL [500] rfl rfl rfl (hO rfl) .plain ?_; refine kmv rfl <| kex rfl rfl <| kex rfl rfl <| kas rfl <| kas rfl <| RunK.nil <| LWP.seq <| LWP.seq <| rgN <| kmv rfl <| keq rfl rfl (r := true) rfl <| kmv rfl <| gmv rfl rfl rfl <| gca rfl rfl hL rfl rfl ?_; refine gmv rfl rfl rfl <| K.lenX rfl SliceT.h rfl (.taken rfl rfl) ?_; refine K.neq rfl rfl hne (.taken rfl rfl) ?_; refine kpt rfl rfl <| RunK.nil <| LWP.condT rfl ?_; refine LWP.seq <| rgN <| kas rfl <| kas rfl <| RunK.nil <| LWP.ret ?_)
        exact ⟨[_, _], ⟨rfl, rfl, trivial⟩, rfl⟩
      | false =>
        have hP : prE ids = 0 := by unfold prE; rw [hk, ht]; rfl
        rw [show prN ids = ofN ids by unfold prN; rw [hP]; rfl, hP]
        rw [ht] at hne
        generalize (idsL (ofN ids)).length = q at *
        (refine LWP.seq <| rgN <| klt rfl rfl (decide_eq_false (by omega)) <| RunK.nil <| LWP.seq <| LWP.condF rfl ?_; refine LWP.exit <| LWP.seq <| rgN <| kmv rfl <| K.callL [500] rfl rfl rfl (hO rfl) .plain ?_; refine kmv rfl <| kex rfl rfl <| kex rfl rfl <| kas rfl <| kas rfl <| RunK.nil <| LWP.seq <| LWP.seq <| rgN <| kmv rfl <| keq rfl rfl (r := true) rfl <| kmv rfl <| gmv rfl rfl rfl <| gca rfl rfl hL rfl rfl ?_; refine gmv rfl rfl rfl <| K.lenX rfl SliceT.h rfl (.taken rfl rfl) ?_; refine K.neq rfl rfl hne (.taken rfl rfl) ?_; refine kpt rfl rfl <| RunK.nil <| LWP.condF rfl ?_; refine LWP.skip ?_; refine LWP.seq <| rgN <| kmv rfl <| kmv rfl <| kas rfl <| kas rfl <| RunK.nil <| LWP.ret ?_)
        exact ⟨[_, _], ⟨rfl, rfl, trivial⟩, rfl⟩
end Go.Proofs.YtbpdbclndfmcgaaGreatDoor
end
section
namespace Go.Lg
open Go Go.RowKit
def atR (b : Nat) (R : Rsc) : Rsc := ⟨fun ρ H => ρ.1 = b ∧ R.holds ρ H⟩
def minusM (H K : Nat → Option Obj) : Nat → Option Obj := fun b => match K b with | some _ => none | none => H b
theorem minusM_none {H K : Nat → Option Obj} {b : Nat} (h : K b = none) : minusM H K b = H b := by unfold minusM; rw [h]
theorem minusM_some {H K : Nat → Option Obj} {b : Nat} {o : Obj} (h : minusM H K b = some o) : K b = none ∧ H b = some o := by
  unfold minusM at h
  cases hk : K b with
  | none => rw [hk] at h; exact ⟨rfl, h⟩
  | some x => rw [hk] at h; cases h
theorem minusM_in {H K : Nat → Option Obj} {b : Nat} (h : K b ≠ none) : minusM H K b = none := by
  unfold minusM
  cases hk : K b with
  | none => exact absurd hk h
  | some x => rfl
theorem OwnedM.minus {C : Ctx} {X H : Nat → Option Obj} (h : OwnedM C X H) (K : Nat → Option Obj) : OwnedM C X (minusM H K) := ⟨fun b o hb => h.own b o (minusM_some hb).2⟩
theorem OwnedM.swap {C : Ctx} {X A B : Nat → Option Obj} (hA : OwnedM C X A) (hB : OwnedM C (joinM X A) B) : OwnedM C X B ∧ OwnedM C (joinM X B) A ∧ joinM (joinM X A) B = joinM (joinM X B) A := by
  have hno : ∀ b o, B b = some o → A b = none ∧ X b = none := fun b o h => joinM_none (hB.own b o h).2.2
  refine ⟨⟨fun b o h => let g := hB.own b o h; ⟨g.1, g.2.1, (hno b o h).2⟩⟩, ⟨fun b o h => ?_⟩, ?_⟩
  · obtain ⟨h1, h2, h3⟩ := hA.own b o h
    refine ⟨h1, h2, ?_⟩
    cases hb : B b with
    | none => rw [joinM_out hb]; exact h3
    | some o' => have := (hno b o' hb).1; rw [h] at this; cases this
  · funext b
    unfold joinM
    cases hb : B b with
    | none => cases A b <;> rfl
    | some o => rw [(hno b o hb).1]; rfl
theorem fix_vals {k b : Nat} (l : List Value) : (l.map CV.val).map (CV.fix k b) = l.map CV.val := by rw [List.map_map]; rfl
theorem fix_mid {k b off : Nat} (A B : List Value) : (A.map CV.val ++ .ptr k off :: B.map CV.val).map (CV.fix k b) = (A ++ .pointer (some ⟨b, off, none⟩) :: B).map CV.val := by
  rw [List.map_append, List.map_cons, fix_vals, fix_vals, List.map_append, List.map_cons]
  congr 2
  simp [CV.fix]
theorem fixIn_vals {k : Nat} {bx : List (Nat × Option Box)} (l : List Value) : (l.map CV.val).all (CV.fixIn k bx) = true := List.all_eq_true.2 fun c hc => by
  obtain ⟨v, _, rfl⟩ := List.mem_map.1 hc
  rfl
theorem fixIn_mid {k off : Nat} {bx : List (Nat × Option Box)} (A B : List Value) : (A.map CV.val ++ .ptr k off :: B.map CV.val).all (CV.fixIn k bx) = true := by
  rw [List.all_append, List.all_cons, fixIn_vals, fixIn_vals]
  simp [CV.fixIn]
section
variable {P : Program} {n : Nat} {C : Ctx} {c : Code} {Q : Exit → St → Prop} {X : Nat → Option Obj} {s : List (Nat × LV)} {bx : List (Nat × Option Box)}
theorem Rel.takeRes {ι : Nat → Nat × Nat} {a : Act} {w : World} {k b m : Nat} {R : Rsc} {H Hc : Nat → Option Obj} (hO : OwnedM C X H) (hsub : ∀ x o, Hc x = some o → H x = some o) (hR : R.holds (b, m) Hc) (hroot : Hc b ≠ none)
    (hs : s.all (fun p => p.2.inUse bx) = true) (hb : bx.all (fun p => match p.2 with | some b => b.cells.all (CV.inUse bx) | none => true) = true) (hk : look k bx = none) (hlt : k < 1000000)
    (hr : Rel n C ι ⟨s, bx, joinM X H⟩ a w) :
    Rel n C (put1 ι k (b, m)) ⟨s, (k, some ⟨0, [], .res (atR b R)⟩) :: bx, joinM X (minusM H Hc)⟩ a w := by
  have hlk : ∀ k' x, look k' bx = some x → k' ≠ k := fun k' x h' e => by rw [e, hk] at h'; cases h'
  have hι : ∀ k', k' ≠ k → put1 ι k (b, m) k' = ι k' := fun k' e => by unfold put1; rw [if_neg e]
  have hιk : put1 ι k (b, m) k = (b, m) := by unfold put1; rw [if_pos rfl]
  have hst : ∀ k' x, (⟨s, (k, some ⟨0, [], .res (atR b R)⟩) :: bx, joinM X (minusM H Hc)⟩ : St).stat k' = some (some x) → (k' = k ∧ x = ⟨0, [], .res (atR b R)⟩) ∨ (k' ≠ k ∧ look k' bx = some (some x)) := fun k' x h' => by
    rw [stat_hd] at h'
    by_cases e : k' = k
    · rw [if_pos e] at h'
      simp only [Option.some.injEq] at h'
      exact .inl ⟨e, h'.symm⟩
    · rw [if_neg e] at h'; exact .inr ⟨e, h'⟩
  have hon : SameOn bx (⟨s, bx, joinM X H⟩ : St).stat (⟨s, (k, some ⟨0, [], .res (atR b R)⟩) :: bx, joinM X (minusM H Hc)⟩ : St).stat := fun k' x h' => by
    rw [stat_hd, if_neg (hlk k' x h')]; rfl
  have hmean : ∀ k', (look k' bx).isSome = true → put1 ι k (b, m) k' = ι k' := fun k' hk' => hι k' (by obtain ⟨x, hx⟩ := Option.isSome_iff_exists.1 hk'; exact hlk k' x hx)
  have hboxm : ∀ {x : Box} {us : List Value}, x.rel (⟨s, (k, some ⟨0, [], .res (atR b R)⟩) :: bx, joinM X (minusM H Hc)⟩ : St).stat ι us → x.cells.all (CV.inUse bx) = true → x.rel (⟨s, (k, some ⟨0, [], .res (atR b R)⟩) :: bx, joinM X (minusM H Hc)⟩ : St).stat (put1 ι k (b, m)) us := fun {x us} h1 h2 => by
    unfold Box.rel at h1 ⊢
    cases hrow : x.row with
    | res R => rw [hrow] at h1; exact h1.elim
    | bool r =>
      cases r with
      | false => rw [hrow] at h1; exact CVs.rel_means hmean h2 h1
      | true =>
        rw [hrow] at h1
        obtain ⟨us', sp, e, hl⟩ := h1
        exact ⟨us', sp, e, CVs.rel_means hmean h2 hl⟩
  have hfar : ∀ k' x, look k' bx = some (some x) → Hc (ι k').1 = none := fun k' x h => by
    have h2 : H (ι k').1 = none ∧ X (ι k').1 = none := joinM_none (hr.own k' x h).2
    cases hc : Hc (ι k').1 with
    | none => rfl
    | some o => rw [hsub _ _ hc] at h2; cases h2.1
  have hbX : Hc b ≠ none → joinM X (minusM H Hc) b = none := fun h => by
    rw [joinM_out (minusM_in h)]
    cases hc : Hc b with
    | none => exact absurd hc h
    | some o => exact (hO.own b o (hsub _ _ hc)).2.2
  exact {
    defers := hr.defers, size := hr.size
    slots := fun d' lv hd => by
      obtain ⟨v', hv', hr'⟩ := hr.slots d' lv hd
      have hu := List.all_eq_true.1 hs _ (look_mem hd)
      exact ⟨v', hv', LV.rel_means hmean hu (LV.rel_on hon hu hr')⟩
    boxes := fun k' x hx hxb => by
      rcases hst k' x hx with ⟨rfl, rfl⟩ | ⟨hne, hx'⟩
      · cases hxb
      · rw [hι k' hne]
        obtain ⟨arr', fr', h1, h2, h3, h4⟩ := hr.boxes k' x hx' hxb
        have hu : x.cells.all (CV.inUse bx) = true := by simpa using List.all_eq_true.1 hb _ (look_mem hx')
        exact ⟨arr', fr', h1, h2, h3, hboxm (Box.rel_on hon hu h4) hu⟩
    own := fun k' x hx => by
      rcases hst k' x hx with ⟨rfl, rfl⟩ | ⟨hne, hx'⟩
      · rw [hιk]
        refine ⟨?_, hbX hroot⟩
        cases hc : Hc b with
        | none => exact absurd hc hroot
        | some o => exact (hO.own b o (hsub _ _ hc)).1
      · rw [hι k' hne]
        obtain ⟨h1, h2⟩ := hr.own k' x hx'
        obtain ⟨h3, h4⟩ := joinM_none h2
        refine ⟨h1, ?_⟩
        show joinM X (minusM H Hc) (ι k').1 = none
        have hm : minusM H Hc (ι k').1 = none := by
          cases hc : minusM H Hc (ι k').1 with
          | none => rfl
          | some o => rw [(minusM_some hc).2] at h3; cases h3
        rw [joinM_out hm]; exact h4
    inj := fun k1 k2 b1 b2 h1 h2 he => by
      have hne : ∀ k' x, look k' bx = some (some x) → (ι k').1 ≠ b := fun k' x hx e => hroot (by rw [← e]; exact hfar k' x hx)
      rcases hst k1 b1 h1 with ⟨e1, _⟩ | ⟨n1, h1'⟩ <;> rcases hst k2 b2 h2 with ⟨e2, _⟩ | ⟨n2, h2'⟩
      · rw [e1, e2]
      · rw [e1, hιk, hι k2 n2] at he; exact absurd he.symm (hne k2 b2 h2')
      · rw [e2, hιk, hι k1 n1] at he; exact absurd he (hne k1 b1 h1')
      · rw [hι k1 n1, hι k2 n2] at he; exact hr.inj k1 k2 b1 b2 h1' h2' he
    keep := fun k' x hx hge => by
      rcases hst k' x hx with ⟨e, _⟩ | ⟨hne, hx'⟩
      · omega
      · rw [hι k' hne]; exact hr.keep k' x hx' hge
    ext := fun x o hx => by
      have hx : joinM X (minusM H Hc) x = some o := hx
      refine hr.ext x o ?_
      show joinM X H x = some o
      cases hc : minusM H Hc x with
      | some o' => rw [joinM_in hc] at hx; cases hx; exact joinM_in (minusM_some hc).2
      | none =>
        rw [joinM_out hc] at hx
        have : H x = none := by
          cases hh : H x with
          | none => rfl
          | some o' => have := (hO.own x o' hh).2.2; rw [hx] at this; cases this
        rw [joinM_out this]; exact hx
    res := by
      obtain ⟨F, hF⟩ := hr.res
      have hFk : ∀ x, F k x = none := fun x => by
        cases ho : F k x with
        | none => rfl
        | some o =>
          obtain ⟨⟨_, _, _, h1⟩, _⟩ := hF.mem k x o ho
          have h1 : look k bx = some _ := h1
          rw [hk] at h1; cases h1
      have hFar : ∀ j x, F j x ≠ none → H x = none ∧ X x = none := fun j x h => by
        cases ho : F j x with
        | none => exact absurd ho h
        | some o => exact joinM_none (hF.mem j x o ho).2.2.2.2.1
      have hcH : ∀ x, Hc x ≠ none → ∃ o, Hc x = some o ∧ H x = some o := fun x h => by
        cases hc : Hc x with
        | none => exact absurd hc h
        | some o => exact ⟨o, rfl, hsub x o hc⟩
      refine ⟨fun j => open Classical in if j = k then Hc else F j, fun j e' cs' R' hj => ?_, fun j x o ho => ?_, fun i j x h1 h2 => ?_⟩
      · rcases hst j _ hj with ⟨rfl, h2⟩ | ⟨hne, hj'⟩
        · rw [if_pos rfl, hιk]
          simp only [Box.mk.injEq, Row.res.injEq] at h2
          obtain ⟨_, _, rfl⟩ := h2
          exact ⟨⟨rfl, hR⟩, hroot⟩
        · rw [if_neg hne, hι j hne]; exact hF.holds j e' cs' R' hj'
      · by_cases ej : j = k
        · rw [if_pos ej] at ho
          obtain ⟨h1, h2, h3⟩ := hO.own x o (hsub x o ho)
          refine ⟨⟨0, [], atR b R, by rw [stat_hd, if_pos ej]⟩, hr.ext x o (joinM_in (hsub x o ho)), h2, h1, ?_, fun i bi hi ei => ?_⟩
          · show joinM X (minusM H Hc) x = none
            rw [joinM_out (minusM_in (by rw [ho]; simp))]; exact h3
          · rw [ej]
            rcases hst i bi hi with ⟨e, _⟩ | ⟨hne, hi'⟩
            · exact e
            · rw [hι i hne] at ei
              have := hfar i bi hi'
              rw [ei, ho] at this; cases this
        · rw [if_neg ej] at ho
          obtain ⟨⟨e1, cs1, R1, h1⟩, h2, h3, h4, h5, h6⟩ := hF.mem j x o ho
          obtain ⟨h7, h8⟩ := hFar j x (by rw [ho]; simp)
          refine ⟨⟨e1, cs1, R1, by rw [stat_hd, if_neg ej]; exact h1⟩, h2, h3, h4, ?_, fun i bi hi ei => ?_⟩
          · show joinM X (minusM H Hc) x = none
            have hm : minusM H Hc x = none := by
              cases hc : minusM H Hc x with
              | none => rfl
              | some o' => rw [(minusM_some hc).2] at h7; cases h7
            rw [joinM_out hm]; exact h8
          · rcases hst i bi hi with ⟨e, _⟩ | ⟨hne, hi'⟩
            · rw [e, hιk] at ei
              obtain ⟨o', _, h9⟩ := hcH b hroot
              rw [← ei] at h7
              rw [h9] at h7; cases h7
            · rw [hι i hne] at ei; exact h6 i bi hi' ei
      · by_cases ei : i = k
        · by_cases ej : j = k
          · rw [ei, ej]
          · rw [if_pos ei] at h1
            rw [if_neg ej] at h2
            obtain ⟨o, _, h3⟩ := hcH x h1
            rw [(hFar j x h2).1] at h3; cases h3
        · by_cases ej : j = k
          · rw [if_neg ei] at h1
            rw [if_pos ej] at h2
            obtain ⟨o, _, h3⟩ := hcH x h2
            rw [(hFar i x h1).1] at h3; cases h3
          · rw [if_neg ei] at h1
            rw [if_neg ej] at h2
            exact hF.apart i j x h1 h2
    frame := hr.frame, big := hr.big, os := hr.os, tape := hr.tape, output := hr.output }
theorem LWP.takeRes {k b m : Nat} {R : Rsc} {H Hc : Nat → Option Obj} (hO : OwnedM C X H) (hsub : ∀ x o, Hc x = some o → H x = some o) (hR : R.holds (b, m) Hc) (hroot : Hc b ≠ none)
    (hs : s.all (fun p => p.2.inUse bx) = true) (hb : bx.all (fun p => match p.2 with | some b => b.cells.all (CV.inUse bx) | none => true) = true) (hk : look k bx = none) (hlt : k < 1000000)
    (h : LWP P n C c Q ⟨s, (k, some ⟨0, [], .res (atR b R)⟩) :: bx, joinM X (minusM H Hc)⟩) : LWP P n C c Q ⟨s, bx, joinM X H⟩ :=
  ⟨fun ι a w hr => h.out _ a w (hr.takeRes hO hsub hR hroot hs hb hk hlt)⟩
theorem Leads.fixAlone {Mid : St → Prop} {k : Nat} {e : TypeId} {cs : List CV} {R : Rsc}
    (hs : s.all (fun p => p.2.inUse bx) = true) (hb : bx.all (fun p => match p.2 with | some b => b.cells.all (CV.inUse bx) | none => true) = true) (hk : look k bx = none)
    (h : ∀ (ρ : Nat × Nat) (H : Nat → Option Obj), R.holds ρ H → OwnedM C X H → Leads n C Mid ⟨s, bx, joinM X H⟩) : Leads n C Mid ⟨s, (k, some ⟨e, cs, .res R⟩) :: bx, X⟩ := ⟨fun ι a w hr => by
  obtain ⟨H, h1, h2, h3⟩ := hr.fixAlone hs hb hk
  exact (h (ι k) H h1 h2).out ι a w h3⟩
theorem Rel.resEx {α : Type} {ι : Nat → Nat × Nat} {a : Act} {w : World} {k : Nat} {e : TypeId} {cs : List CV} {R : Rsc} {R2 : α → Rsc} (h : ∀ ρ H, R.holds ρ H → ∃ x, (R2 x).holds ρ H)
    (hr : Rel n C ι ⟨s, (k, some ⟨e, cs, .res R⟩) :: bx, X⟩ a w) : ∃ x, Rel n C ι ⟨s, (k, some ⟨0, [], .res (R2 x)⟩) :: bx, X⟩ a w := by
  obtain ⟨F, hF⟩ := hr.res
  have hk : (⟨s, (k, some ⟨e, cs, .res R⟩) :: bx, X⟩ : St).stat k = some (some ⟨e, cs, .res R⟩) := by rw [stat_hd, if_pos rfl]
  obtain ⟨hR, hroot⟩ := hF.holds k _ _ _ hk
  obtain ⟨x, hx⟩ := h _ _ hR
  refine ⟨x, ?_⟩
  have hlater := later_hd (s := s) (bx := bx) (k := k) ι ⟨e, cs, .res R⟩ ⟨0, [], .res (R2 x)⟩ X X
  have live : ∀ j b, (⟨s, (k, some ⟨0, [], .res (R2 x)⟩) :: bx, X⟩ : St).stat j = some (some b) → ∃ b0, (⟨s, (k, some ⟨e, cs, .res R⟩) :: bx, X⟩ : St).stat j = some (some b0) ∧ (j ≠ k → b = b0) := fun j b hj => by
    rw [stat_hd] at hj ⊢
    by_cases e : j = k
    · rw [if_pos e]; exact ⟨_, rfl, fun h => absurd e h⟩
    · rw [if_neg e] at hj ⊢; exact ⟨b, hj, fun _ => rfl⟩
  exact {
    defers := hr.defers, size := hr.size
    slots := fun d lv hd => by
      obtain ⟨v, hv, hvr⟩ := hr.slots d lv hd
      exact ⟨v, hv, LV.rel_later hlater hvr⟩
    boxes := fun j b hj hbk => by
      by_cases ej : j = k
      · subst ej
        rw [stat_hd, if_pos rfl] at hj
        simp only [Option.some.injEq] at hj
        subst hj
        cases hbk
      · obtain ⟨b0, h0, h1⟩ := live j b hj
        have := h1 ej
        subst this
        obtain ⟨arr', fr', g1, g2, g3, g4⟩ := hr.boxes j b h0 hbk
        exact ⟨arr', fr', g1, g2, g3, Box.rel_later hlater g4⟩
    own := fun j b hj => by
      obtain ⟨b0, h0, _⟩ := live j b hj
      exact hr.own j b0 h0
    inj := fun i j bi bj hi hj he => by
      obtain ⟨b1, h1, _⟩ := live i bi hi
      obtain ⟨b2, h2, _⟩ := live j bj hj
      exact hr.inj i j b1 b2 h1 h2 he
    keep := fun j b hj hge => by obtain ⟨b0, h0, _⟩ := live j b hj; exact hr.keep j b0 h0 hge
    ext := hr.ext
    res := by
      refine ⟨F, fun j e' cs' R' hj => ?_, fun j b o ho => ?_, hF.apart⟩
      · rw [stat_hd] at hj
        by_cases ej : j = k
        · rw [if_pos ej] at hj
          simp only [Option.some.injEq, Box.mk.injEq, Row.res.injEq] at hj
          obtain ⟨_, _, rfl⟩ := hj
          rw [ej]; exact ⟨hx, hroot⟩
        · rw [if_neg ej] at hj
          exact hF.holds j e' cs' R' (by rw [stat_hd, if_neg ej]; exact hj)
      · obtain ⟨⟨e1, cs1, R1, h1⟩, h2, h3, h4, h5, h6⟩ := hF.mem j b o ho
        refine ⟨?_, h2, h3, h4, h5, fun i bi hi ei => ?_⟩
        · by_cases ej : j = k
          · exact ⟨0, [], R2 x, by rw [stat_hd, if_pos ej]⟩
          · exact ⟨e1, cs1, R1, by rw [stat_hd, if_neg ej]; rw [stat_hd, if_neg ej] at h1; exact h1⟩
        · obtain ⟨b0, h0, _⟩ := live i bi hi
          exact h6 i b0 h0 ei
    frame := hr.frame, big := hr.big, os := hr.os, tape := hr.tape, output := hr.output }
theorem LWP.resEx {α : Type} {k : Nat} {e : TypeId} {cs : List CV} {R : Rsc} (R2 : α → Rsc) (he : ∀ ρ H, R.holds ρ H → ∃ x, (R2 x).holds ρ H)
    (h : ∀ x, LWP P n C c Q ⟨s, (k, some ⟨0, [], .res (R2 x)⟩) :: bx, X⟩) : LWP P n C c Q ⟨s, (k, some ⟨e, cs, .res R⟩) :: bx, X⟩ := ⟨fun ι a w hr => by
  obtain ⟨x, hx⟩ := hr.resEx he
  exact (h x).out ι a w hx⟩
theorem Leads.resTo {Mid : St → Prop} {k : Nat} {e : TypeId} {cs : List CV} {R R2 : Rsc} (he : ∀ ρ H, R.holds ρ H → R2.holds ρ H)
    (h : Leads n C Mid ⟨s, (k, some ⟨0, [], .res R2⟩) :: bx, X⟩) : Leads n C Mid ⟨s, (k, some ⟨e, cs, .res R⟩) :: bx, X⟩ := ⟨fun ι a w hr => by
  obtain ⟨_, hx⟩ := hr.resEx (α := Unit) (R2 := fun _ => R2) fun ρ H hh => ⟨(), he ρ H hh⟩
  exact h.out ι a w hx⟩
end
structure Refs (H : Nat → Option Obj) (ps : List Nat) (Rs : List Rsc) : Prop where
  len : ps.length = Rs.length
  ex : ∃ F : Nat → Nat → Option Obj, (∀ i b o, F i b = some o → H b = some o) ∧ (∀ i j b, F i b ≠ none → F j b ≠ none → i = j) ∧
    ∀ (i b : Nat) (R : Rsc), Rs[i]? = some R → ps[i]? = some b → (∃ m, R.holds (b, m) (F i)) ∧ F i b ≠ none
theorem Refs.nil (H : Nat → Option Obj) : Refs H [] [] := ⟨rfl, fun _ _ => none, fun _ _ _ h => (by cases h), fun _ _ _ h => absurd rfl h, fun i b R h => (by simp at h)⟩
section
variable {H : Nat → Option Obj} {ps : List Nat} {Rs : List Rsc}
theorem Refs.take (h : Refs H ps Rs) {i : Nat} {R : Rsc} (hi : Rs[i]? = some R) : ∃ (b m : Nat) (Hc : Nat → Option Obj), ps[i]? = some b ∧ R.holds (b, m) Hc ∧ Hc b ≠ none ∧ (∀ x o, Hc x = some o → H x = some o) ∧
    ∀ (R' : Rsc) (m' : Nat) (Hc' : Nat → Option Obj), R'.holds (b, m') Hc' → Hc' b ≠ none → (∀ x, Hc' x ≠ none → minusM H Hc x = none) → Refs (joinM (minusM H Hc) Hc') ps (Rs.set i R') := by
  obtain ⟨hl, F, h1, h2, h3⟩ := h
  have hlt := (List.getElem?_eq_some_iff.1 hi).1
  obtain ⟨b, hb⟩ : ∃ b, ps[i]? = some b := ⟨_, List.getElem?_eq_getElem (by omega)⟩
  obtain ⟨⟨m, h4⟩, h5⟩ := h3 i b R hi hb
  refine ⟨b, m, F i, hb, h4, h5, h1 i, fun R' m' Hc' g1 g2 g3 => ⟨by rw [List.length_set]; exact hl, fun j => if j = i then Hc' else F j, fun j x o hx => ?_, fun j k x hj hk => ?_, fun j c S hS hc => ?_⟩⟩
  · replace hx : (if j = i then Hc' else F j) x = some o := hx
    by_cases e : j = i
    · rw [if_pos e] at hx; exact joinM_in hx
    · rw [if_neg e] at hx
      have hmi : minusM H (F i) x = some o := by
        rw [minusM_none]
        · exact h1 j x o hx
        · cases hc : F i x with
          | none => rfl
          | some o' => exact absurd (h2 j i x (by rw [hx]; simp) (by rw [hc]; simp)) e
      cases hc : Hc' x with
      | none => rw [joinM_out hc]; exact hmi
      | some o' => have := g3 x (by rw [hc]; simp); rw [hmi] at this; cases this
  · have far : ∀ j x, j ≠ i → F j x ≠ none → Hc' x = none := fun j x e hx => by
      cases hc : Hc' x with
      | none => rfl
      | some o' =>
        have h6 := g3 x (by rw [hc]; simp)
        cases ho : F j x with
        | none => exact absurd ho hx
        | some o =>
          rw [minusM_none, h1 j x o ho] at h6
          · cases h6
          · cases hc2 : F i x with
            | none => rfl
            | some o'' => exact absurd (h2 j i x hx (by rw [hc2]; simp)) e
    replace hj : (if j = i then Hc' else F j) x ≠ none := hj
    replace hk : (if k = i then Hc' else F k) x ≠ none := hk
    by_cases e : j = i
    · by_cases e2 : k = i
      · omega
      · rw [if_pos e] at hj
        rw [if_neg e2] at hk
        exact absurd (far k x e2 hk) hj
    · by_cases e2 : k = i
      · rw [if_neg e] at hj
        rw [if_pos e2] at hk
        exact absurd (far j x e hj) hk
      · rw [if_neg e] at hj
        rw [if_neg e2] at hk
        exact h2 j k x hj hk
  · show (∃ m, S.holds (c, m) (if j = i then Hc' else F j)) ∧ (if j = i then Hc' else F j) c ≠ none
    by_cases e : j = i
    · rw [if_pos e]
      rw [e, List.getElem?_set_self hlt] at hS
      rw [e, hb] at hc
      simp only [Option.some.injEq] at hS hc
      subst hS hc
      exact ⟨⟨m', g1⟩, g2⟩
    · rw [if_neg e]
      rw [List.getElem?_set_ne (fun e' => e e'.symm)] at hS
      exact h3 j c S hS hc
theorem Refs.push (h : Refs H ps Rs) {b m : Nat} {R : Rsc} {Hc : Nat → Option Obj} (hR : R.holds (b, m) Hc) (hb : Hc b ≠ none) (hno : ∀ x, Hc x ≠ none → H x = none) : Refs (joinM H Hc) (ps ++ [b]) (Rs ++ [R]) := by
  obtain ⟨hl, F, h1, h2, h3⟩ := h
  refine ⟨by rw [List.length_append, List.length_append, hl]; rfl, fun j => if j = Rs.length then Hc else F j, fun j x o hx => ?_, fun j k x hj hk => ?_, fun j c S hS hc => ?_⟩
  · replace hx : (if j = Rs.length then Hc else F j) x = some o := hx
    by_cases e : j = Rs.length
    · rw [if_pos e] at hx; exact joinM_in hx
    · rw [if_neg e] at hx
      have h4 := h1 j x o hx
      cases hc : Hc x with
      | none => rw [joinM_out hc]; exact h4
      | some o' => have := hno x (by rw [hc]; simp); rw [h4] at this; cases this
  · have far : ∀ j x, F j x ≠ none → Hc x = none := fun j x hx => by
      cases ho : F j x with
      | none => exact absurd ho hx
      | some o =>
        cases hc : Hc x with
        | none => rfl
        | some o' => have := hno x (by rw [hc]; simp); rw [h1 j x o ho] at this; cases this
    replace hj : (if j = Rs.length then Hc else F j) x ≠ none := hj
    replace hk : (if k = Rs.length then Hc else F k) x ≠ none := hk
    by_cases e : j = Rs.length
    · by_cases e2 : k = Rs.length
      · omega
      · rw [if_pos e] at hj
        rw [if_neg e2] at hk
        exact absurd (far k x hk) hj
    · by_cases e2 : k = Rs.length
      · rw [if_neg e] at hj
        rw [if_pos e2] at hk
        exact absurd (far j x hj) hk
      · rw [if_neg e] at hj
        rw [if_neg e2] at hk
        exact h2 j k x hj hk
  · have hlt := (List.getElem?_eq_some_iff.1 hS).1
    rw [List.length_append, List.length_singleton] at hlt
    show (∃ m, S.holds (c, m) (if j = Rs.length then Hc else F j)) ∧ (if j = Rs.length then Hc else F j) c ≠ none
    by_cases e : j = Rs.length
    · rw [if_pos e]
      rw [e, List.getElem?_append_right (Nat.le_refl _), Nat.sub_self] at hS
      rw [e, ← hl, List.getElem?_append_right (Nat.le_refl _), Nat.sub_self] at hc
      simp only [List.getElem?_cons_zero, Option.some.injEq] at hS hc
      subst hS hc
      exact ⟨⟨m, hR⟩, hb⟩
    · rw [if_neg e]
      rw [List.getElem?_append_left (by omega)] at hS
      rw [List.getElem?_append_left (by omega)] at hc
      exact h3 j c S hS hc
end
theorem lvs_later {S S' : Nat → Option (Option Box)} {ι ι' : Nat → Nat × Nat} (h : Later S S' ι ι') : ∀ {l : List LV} {vs : List Value}, LVs.rel S ι l vs → LVs.rel S' ι' l vs
  | [], [], _ => trivial
  | [], _ :: _, hr => hr.elim
  | _ :: _, [], hr => hr.elim
  | _ :: _, _ :: _, hr => ⟨LV.rel_later h hr.1, lvs_later h hr.2⟩
theorem MSpec.at {P : Program} {X : Nat → Option Obj} {f : FuncId} {k b : Nat} {args : List LV} {r : LV} {R R' : Rsc} {post : List (Nat × Option Box)} (h : MSpec P X f (.sv (.one (.ptr k 0)) :: args) [(k, some ⟨0, [], .res R⟩)] r ((k, some ⟨0, [], .res R'⟩) :: post)) :
    MSpec P X f (.sv (.one (.val (.pointer (some ⟨b, 0, none⟩)))) :: args) [(k, some ⟨0, [], .res (atR b R)⟩)] r ((k, some ⟨0, [], .res (atR b R')⟩) :: post) := by
  have hcons : ∀ (l : List (Nat × Option Box)) (x : Option Box) (j : Nat), stOf ((k, x) :: l) j = if j = k then some x else stOf l j := fun l x j => stat_cons [] l (fun _ => none) k j x
  have hlater : ∀ (l : List (Nat × Option Box)) (ι : Nat → Nat × Nat) (A B : Rsc), Later (stOf ((k, some ⟨0, [], .res A⟩) :: l)) (stOf ((k, some ⟨0, [], .res B⟩) :: l)) ι ι := fun l ι A B => later_same ι fun j hj => by
    rw [hcons] at hj ⊢
    rw [hcons]
    by_cases e : j = k
    · rw [if_pos e, if_pos e]; exact ⟨by simp, fun _ _ => ⟨_, rfl⟩⟩
    · rw [if_neg e] at hj ⊢
      rw [if_neg e]; exact ⟨hj, fun b1 hb1 => ⟨b1, hb1⟩⟩
  have conv : ∀ (l : List (Nat × Option Box)) (A B : Rsc) (ι : Nat → Nat × Nat) (H : Nat → Nat → Option Obj) (w : World), (A.holds (ι k) (H k) → B.holds (ι k) (H k)) → MemOf X ι H ((k, some ⟨0, [], .res A⟩) :: l) w → MemOf X ι H ((k, some ⟨0, [], .res B⟩) :: l) w := fun l A B ι H w hAB hM => by
    have live : ∀ j x, stOf ((k, some ⟨0, [], .res B⟩) :: l) j = some (some x) → ∃ y, stOf ((k, some ⟨0, [], .res A⟩) :: l) j = some (some y) ∧ (j ≠ k → x = y) := fun j x hj => by
      rw [hcons] at hj ⊢
      by_cases e : j = k
      · rw [if_pos e]; exact ⟨_, rfl, fun h => absurd e h⟩
      · rw [if_neg e] at hj ⊢; exact ⟨x, hj, fun _ => rfl⟩
    refine ⟨fun j x hj hb => ?_, fun j x hj => ?_, fun i j bi bj hi hj he => ?_, hM.ext, ?_⟩
    · obtain ⟨y, hy, hne⟩ := live j x hj
      by_cases e : j = k
      · rw [hcons, if_pos e] at hj
        simp only [Option.some.injEq] at hj
        subst hj; cases hb
      · have := hne e
        subst this
        obtain ⟨arr, fr, h1, h2, h3, h4⟩ := hM.boxes j x hy hb
        exact ⟨arr, fr, h1, h2, h3, Box.rel_later (hlater l ι A B) h4⟩
    · obtain ⟨y, hy, _⟩ := live j x hj
      exact hM.apart j y hy
    · obtain ⟨y, hy, _⟩ := live i bi hi
      obtain ⟨z, hz, _⟩ := live j bj hj
      exact hM.inj i j y z hy hz he
    · refine ⟨fun j e' cs' R1 hj => ?_, fun j x o ho => ?_, hM.res.apart⟩
      · rw [hcons] at hj
        by_cases e : j = k
        · rw [if_pos e] at hj
          simp only [Option.some.injEq, Box.mk.injEq, Row.res.injEq] at hj
          obtain ⟨_, _, rfl⟩ := hj
          obtain ⟨h1, h2⟩ := hM.res.holds k 0 [] A (by rw [hcons, if_pos rfl])
          rw [e]; exact ⟨hAB h1, h2⟩
        · rw [if_neg e] at hj
          exact hM.res.holds j e' cs' R1 (by rw [hcons, if_neg e]; exact hj)
      · obtain ⟨⟨e1, cs1, R1, h1⟩, h2, h3, h4, h5, h6⟩ := hM.res.mem j x o ho
        refine ⟨?_, h2, h3, h4, h5, fun i bi hi ei => ?_⟩
        · by_cases e : j = k
          · exact ⟨0, [], B, by rw [hcons, if_pos e]⟩
          · exact ⟨e1, cs1, R1, by rw [hcons, if_neg e]; rw [hcons, if_neg e] at h1; exact h1⟩
        · obtain ⟨y, hy, _⟩ := live i bi hi
          exact h6 i y hy ei
  refine ⟨h.enters, fun w vals ι H hM hargs => ?_⟩
  obtain ⟨⟨hb, hR⟩, _⟩ := hM.res.holds k 0 [] (atR b R) (by rw [hcons, if_pos rfl])
  have hM0 := conv [] (atR b R) R ι H w (fun h => h.2) hM
  have hargs0 : LVs.rel (stOf [(k, some ⟨0, [], .res R⟩)]) ι (.sv (.one (.ptr k 0)) :: args) vals.toList := by
    cases hv : vals.toList with
    | nil => rw [hv] at hargs; exact hargs.elim
    | cons v vs =>
      rw [hv] at hargs
      obtain ⟨h1, h2⟩ := hargs
      refine ⟨?_, ?_⟩
      · have h1 : v = .pointer (some ⟨b, 0, none⟩) := h1
        simp only [LV.rel, SV.rel, CV.rel]
        rw [hcons, if_pos rfl]
        simp only
        rw [h1, hb]
      · exact lvs_later (hlater [] ι (atR b R) R) h2
  refine (h.out w vals ι H hM0 hargs0).mono ?_
  rintro e w' ⟨v, ι', H', rfl, hv, hM', hP⟩
  have hold := (hP.old k ⟨0, [], .res R'⟩ (by rw [hcons, if_pos rfl]) (by rw [hcons, if_pos rfl]; simp)).2
  have hlen : ∀ j, stOf [(k, some (⟨0, [], .res (atR b R)⟩ : Box))] j = none ↔ stOf [(k, some (⟨0, [], .res R⟩ : Box))] j = none := fun j => by
    rw [hcons, hcons]
    by_cases e : j = k
    · rw [if_pos e, if_pos e]; simp
    · rw [if_neg e, if_neg e]
  have hlent : ∀ x, LentB [(k, some (⟨0, [], .res (atR b R)⟩ : Box))] ι H x ↔ LentB [(k, some (⟨0, [], .res R⟩ : Box))] ι H x := fun x => by
    have go : ∀ A B : Rsc, LentB [(k, some (⟨0, [], .res A⟩ : Box))] ι H x → LentB [(k, some (⟨0, [], .res B⟩ : Box))] ι H x := fun A B h => by
      rcases h with ⟨j, b0, h1, h2⟩ | h
      · rw [hcons] at h1
        by_cases e : j = k
        · exact .inl ⟨j, _, by rw [hcons, if_pos e], h2⟩
        · rw [if_neg e] at h1; cases h1
      · exact .inr h
    exact ⟨go _ _, go _ _⟩
  have live : ∀ j x, stOf ((k, some ⟨0, [], .res (atR b R')⟩) :: post) j = some (some x) → ∃ y, stOf ((k, some ⟨0, [], .res R'⟩) :: post) j = some (some y) := fun j x hj => by
    rw [hcons] at hj ⊢
    by_cases e : j = k
    · rw [if_pos e]; exact ⟨_, rfl⟩
    · rw [if_neg e] at hj ⊢; exact ⟨x, hj⟩
  refine ⟨v, ι', H', rfl, LV.rel_later (hlater post ι' R' (atR b R')) hv, conv post R' (atR b R') ι' H' w' (fun h => ⟨by rw [hold]; exact hb, h⟩) hM', ⟨fun j x hj hn => ?_, fun j x hj hn => ?_, fun j x hj => ?_, fun x hx hn => hP.frame x hx fun h => hn ((hlent x).2 h), hP.big, hP.os, hP.tape, hP.output⟩⟩
  · obtain ⟨y, hy⟩ := live j x hj
    obtain ⟨⟨b0, h1⟩, h2⟩ := hP.old j y hy fun h => hn ((hlen j).2 h)
    refine ⟨?_, h2⟩
    rw [hcons] at h1 ⊢
    by_cases e : j = k
    · rw [if_pos e]; exact ⟨_, rfl⟩
    · rw [if_neg e] at h1; cases h1
  · obtain ⟨y, hy⟩ := live j x hj
    rcases hP.new j y hy ((hlen j).1 hn) with h | h
    · exact .inl h
    · exact .inr ((hlent _).2 h)
  · rcases hP.newH j x hj with h | h
    · exact .inl h
    · exact .inr ((hlent _).2 h)
end Go.Lg
end
section
namespace Go.Proofs.YtbpdbclndfmcgaaGreatDoor
open Go Go.Lg Go.Lg.Fld Go.Lg.Sg Go.Lg.Col
set_option maxRecDepth 100000
def onlyC (cs : List Cp) (set : Nat) : List Cp := cs.filter fun c => hasB set c.id
def valR (r : Rw) (k : Nat) : List (Bool × Int) := match r.p[k]? with | some p => p.val | none => []
def colL (l : List Rw) (k : Nat) (c : Cp) : List (List UInt8) := l.map fun r => packB c.fs (valR r k)
def colsG (f : Nat → Cp → List (List UInt8)) (most : Nat) (cs : List Cp) : List Rsc := cs.mapIdx fun k c => colR (rowSize c.fs) most (f k c)
def colsT (t : Tb) : List Rsc := colsG (colL t.l) t.most (onlyC t.sc.cs t.set)
theorem colsG_at {f : Nat → Cp → List (List UInt8)} {most : Nat} {cs : List Cp} {k : Nat} {c : Cp} (h : cs[k]? = some c) : (colsG f most cs)[k]? = some (colR (rowSize c.fs) most (f k c)) := by
  unfold colsG; rw [List.getElem?_mapIdx, h]; rfl
theorem colsG_len (f : Nat → Cp → List (List UInt8)) (most : Nat) (cs : List Cp) : (colsG f most cs).length = cs.length := by unfold colsG; rw [List.length_mapIdx]
theorem colsG_set {f g : Nat → Cp → List (List UInt8)} {most : Nat} {cs : List Cp} {k : Nat} {c : Cp} (h : cs[k]? = some c) (hk : ∀ j d, j ≠ k → cs[j]? = some d → g j d = f j d) :
    (colsG f most cs).set k (colR (rowSize c.fs) most (g k c)) = colsG g most cs := by
  refine List.ext_getElem? fun j => ?_
  have hlt := (List.getElem?_eq_some_iff.1 h).1
  by_cases e : j = k
  · subst e
    rw [List.getElem?_set_self (by rw [colsG_len]; exact hlt), colsG_at h]
  · rw [List.getElem?_set_ne (fun e' => e e'.symm)]
    unfold colsG
    rw [List.getElem?_mapIdx, List.getElem?_mapIdx]
    cases hd : cs[j]? with
    | none => rfl
    | some d => simp only [Option.map_some]; rw [hk j d e hd]
theorem colsG_congr {f g : Nat → Cp → List (List UInt8)} {most : Nat} {cs : List Cp} (h : ∀ j d, cs[j]? = some d → g j d = f j d) : colsG g most cs = colsG f most cs := by
  refine List.ext_getElem? fun j => ?_
  unfold colsG
  rw [List.getElem?_mapIdx, List.getElem?_mapIdx]
  cases hd : cs[j]? with
  | none => rfl
  | some d => simp only [Option.map_some]; rw [h j d hd]
theorem sorted_ext : ∀ {a b : List Int}, a.Pairwise (· < ·) → b.Pairwise (· < ·) → (∀ x, x ∈ a ↔ x ∈ b) → a = b
  | [], [], _, _, _ => rfl
  | [], y :: b, _, _, h => absurd ((h y).2 (List.mem_cons_self ..)) (by simp)
  | x :: a, [], _, _, h => absurd ((h x).1 (List.mem_cons_self ..)) (by simp)
  | x :: a, y :: b, ha, hb, h => by
    obtain ⟨ha1, ha2⟩ := List.pairwise_cons.1 ha
    obtain ⟨hb1, hb2⟩ := List.pairwise_cons.1 hb
    have e : x = y := by
      rcases List.mem_cons.1 ((h x).1 (List.mem_cons_self ..)) with e | h1
      · exact e
      · rcases List.mem_cons.1 ((h y).2 (List.mem_cons_self ..)) with e | h2
        · exact e.symm
        · have := hb1 x h1; have := ha1 y h2; omega
    subst e
    rw [sorted_ext ha2 hb2 fun z => ?_]
    constructor
    · intro hz
      rcases List.mem_cons.1 ((h z).1 (List.mem_cons_of_mem _ hz)) with e | h1
      · have := ha1 z hz; omega
      · exact h1
    · intro hz
      rcases List.mem_cons.1 ((h z).2 (List.mem_cons_of_mem _ hz)) with e | h1
      · have := hb1 z hz; omega
      · exact h1
theorem idsL_sorted (a : Nat) : (idsL a).Pairwise (· < ·) := by
  unfold idsL idsTo
  rw [List.pairwise_map]
  refine List.Pairwise.imp (R := fun i j => i < j) (fun {i j} (h : i < j) => by omega) (List.Pairwise.filter _ List.pairwise_lt_range)
theorem goodC16 {s : Sc} (h : chkE s = 0) : Fld.Good s.cs := by
  unfold chkE at h
  split at h
  · cases h
  · exact good_of h
theorem pair16 {cs : List Cp} (h : Fld.Good cs) : cs.Pairwise (fun c d => c.id < d.id) := by
  rw [List.pairwise_iff_getElem]
  intro i j hi hj hij
  exact (h.two i j _ _ hij (List.getElem?_eq_getElem hi) (List.getElem?_eq_getElem hj)).1
theorem lay16 {s : Sc} (h : chkE s = 0) {c : Cp} (hc : c ∈ s.cs) : layErr c.fs = 0 := by
  obtain ⟨i, hi⟩ := List.mem_iff_getElem?.1 hc
  exact ((goodC16 h).one i c hi).2.2.2.2
theorem only_mem {cs : List Cp} {set : Nat} {c : Cp} (h : c ∈ onlyC cs set) : c ∈ cs ∧ hasB set c.id = true := List.mem_filter.1 h
theorem only_ids {s : Sc} {set : Nat} (h : chkE s = 0) (hh : ∀ id ∈ idsL set, hasC s.cs id = true) : (onlyC s.cs set).map Cp.id = idsL set := by
  refine sorted_ext ?_ (idsL_sorted set) fun x => ?_
  · rw [List.pairwise_map]
    exact (pair16 (goodC16 h)).filter _
  · have hx : x ∈ idsL set ↔ hasB set x = true := by
      rw [← any_ids, List.any_eq_true]
      exact ⟨fun h => ⟨x, h, beq_iff_eq.2 rfl⟩, fun ⟨y, h1, h2⟩ => by rw [← beq_iff_eq.1 h2]; exact h1⟩
    rw [List.mem_map]
    constructor
    · rintro ⟨c, hc, rfl⟩
      exact hx.2 (only_mem hc).2
    · intro hm
      have h1 := hh x hm
      unfold hasC at h1
      rw [List.any_eq_true] at h1
      obtain ⟨c, hc, he⟩ := h1
      rw [beq_iff_eq] at he
      exact ⟨c, List.mem_filter.2 ⟨hc, by rw [he]; exact hx.1 hm⟩, he⟩
theorem find_of {cs : List Cp} (h : cs.Pairwise (fun c d => c.id < d.id)) {c : Cp} (hc : c ∈ cs) : cs.find? (fun d => d.id == c.id) = some c := by
  induction cs with
  | nil => cases hc
  | cons d t ih =>
    obtain ⟨h1, h2⟩ := List.pairwise_cons.1 h
    rcases List.mem_cons.1 hc with e | hm
    · subst e; rw [List.find?_cons, beq_self_eq_true]
    · have := h1 c hm
      rw [List.find?_cons, show (d.id == c.id) = false by rw [beq_eq_false_iff_ne]; omega]
      exact ih h2 hm
section
variable {t : Tb} (hk : TbOk t)
include hk
theorem t_ids : (onlyC t.sc.cs t.set).map Cp.id = idsL t.set := only_ids hk.sc hk.has
theorem t_len : (onlyC t.sc.cs t.set).length = (idsL t.set).length := by rw [← t_ids hk, List.length_map]
theorem t_len24 : (onlyC t.sc.cs t.set).length ≤ 24 := by rw [t_len hk]; exact ids_le _
theorem t_place (comp : Int) : findI (fun c => c.id == comp) (onlyC t.sc.cs t.set) = match placeT t.set comp with | some k => (k : Nat) | none => -1 := by
  unfold findI placeT
  rw [← t_ids hk, List.findIdx?_map]
  rfl
theorem t_at {comp : Int} {k : Nat} (h : placeT t.set comp = some k) : ∃ c, (onlyC t.sc.cs t.set)[k]? = some c ∧ c.id = comp ∧ fsAt t.sc.cs comp = c.fs ∧ hasB t.set comp = true := by
  have h1 := place_at h
  rw [← t_ids hk, List.getElem?_map] at h1
  obtain ⟨c, hc, he⟩ := Option.map_eq_some_iff.1 h1
  obtain ⟨hm, hb⟩ := only_mem (List.mem_of_getElem? hc)
  refine ⟨c, hc, he, ?_, by rw [← he]; exact hb⟩
  unfold fsAt
  rw [← he, find_of (pair16 (goodC16 hk.sc)) hm]
omit hk in
theorem t_has (set : Nat) (comp : Int) : hasB set comp = (placeT set comp).isSome := by
  rw [← any_ids]
  unfold placeT
  rw [List.findIdx?_isSome]
theorem t_lay {k : Nat} {c : Cp} (h : (onlyC t.sc.cs t.set)[k]? = some c) : layErr c.fs = 0 := lay16 hk.sc (only_mem (List.mem_of_getElem? h)).1
theorem t_size {k : Nat} {c : Cp} (h : (onlyC t.sc.cs t.set)[k]? = some c) : c.fs.length ≤ 8 ∧ rowSize c.fs ≤ 256 ∧ ∀ ns, (packB c.fs ns).length = rowSize c.fs := by
  obtain ⟨h1, h2, h3⟩ := layErr_facts (t_lay hk h)
  exact ⟨h1, h3, fun ns => packB_len h2 ns⟩
theorem t_row {k i : Nat} {c : Cp} {r : Rw} (h : (onlyC t.sc.cs t.set)[k]? = some c) (hr : t.l[i]? = some r) : ∃ p, r.p[k]? = some p ∧ p.comp = c.id ∧ fitErr c.fs p.val = 0 ∧ (colL t.l k c)[i]? = some (packB c.fs p.val) := by
  have hR := hk.rows r (List.mem_of_getElem? hr)
  obtain ⟨p, hp, he⟩ := hR.at (k := k) (id := c.id) (by rw [← t_ids hk, List.getElem?_map, h]; rfl)
  refine ⟨p, hp, he, ?_, ?_⟩
  · have hf := hR.fit p (List.mem_of_getElem? hp)
    have : fsAt t.sc.cs p.comp = c.fs := by
      unfold fsAt
      rw [he, find_of (pair16 (goodC16 hk.sc)) (only_mem (List.mem_of_getElem? h)).1]
    rw [this] at hf; exact hf
  · unfold colL
    rw [List.getElem?_map, hr]
    simp only [Option.map_some, valR, hp]
end
def entV (l : List Nat) : List Value := l.map fun e => .int .u64 (e : Nat)
def EntsAt (H : Nat → Option Obj) (v : Value) (l : List Nat) : Prop := (v = nilSlc ∧ l = []) ∨ ∃ db, LeadsTo H db v 37 1 (entV l)
def PtrsIn (X : Nat → Option Obj) (v : Value) (ps : List Nat) : Prop := ∃ (pad : Option Addr) (cap : Nat), v = .slice pad ps.length cap ∧ ∀ (i b : Nat), ps[i]? = some b →
  ∃ (blk : Nat) (arr : Array Value) (el : TypeId) (fr : Nat × Nat), pad = some ⟨blk, 0, none⟩ ∧ X blk = some (.cells arr el fr) ∧ arr[i]? = some (.pointer (some ⟨b, 0, none⟩))
theorem PtrsIn.mono {X Y : Nat → Option Obj} {v : Value} {ps : List Nat} (h : PtrsIn X v ps) (hXY : ∀ b o, X b = some o → Y b = some o) : PtrsIn Y v ps := by
  obtain ⟨pad, cap, h1, h2⟩ := h
  refine ⟨pad, cap, h1, fun i b hb => ?_⟩
  obtain ⟨blk, arr, el, fr, g1, g2, g3⟩ := h2 i b hb
  exact ⟨blk, arr, el, fr, g1, hXY _ _ g2, g3⟩
theorem EntsAt.slice {H : Nat → Option Obj} {v : Value} {l : List Nat} (h : EntsAt H v l) : ∃ ad cap, v = .slice ad l.length cap := by
  rcases h with ⟨rfl, rfl⟩ | ⟨db, len, cap, arr, fr, rfl, h2, _⟩
  · exact ⟨none, 0, rfl⟩
  · have : len = l.length := by unfold entV at h2; rw [List.length_map] at h2; omega
    rw [this]; exact ⟨_, cap, rfl⟩
structure TabIn (t : Tb) (Hs He Hr : Nat → Option Obj) (vE vC vP : Value) (ps : List Nat) : Prop where
  sc : ∃ (cb cc : Nat), vC = .slice (some ⟨cb, 0, none⟩) (onlyC t.sc.cs t.set).length cc ∧ CompsIn Hs (some ⟨cb, 0, none⟩) (onlyC t.sc.cs t.set)
  ptrs : PtrsIn Hs vP ps
  refs : Refs Hr ps (colsT t)
  ents : EntsAt He vE (t.l.map Rw.e)
  two : ∀ r ∈ t.l, ∀ p ∈ r.p, ∀ u ∈ p.val, In2 u.2
abbrev tblV (t : Tb) (vE vC vP : Value) : List Value := [.int .u32 (t.set : Nat), .int .i64 (t.most : Nat), .int .i64 (t.kept : Nat), vE, .int .i64 t.sc.ver, vC, vP]
def tbM (m : Bool) (t : Tb) : Rsc := ⟨fun ρ H => ρ.2 = 7 ∧ ∃ (fr : Nat × Nat) (Hs He Hr : Nat → Option Obj) (vE vC vP : Value) (ps : List Nat), H ρ.1 = some (.cells (tblV t vE vC vP).toArray 92 fr) ∧
  cutM H ρ.1 = joinM (joinM Hs He) Hr ∧ (∀ b, He b ≠ none → Hs b = none) ∧ (∀ b, Hr b ≠ none → joinM Hs He b = none) ∧ TabIn t Hs He Hr vE vC vP ps ∧ (m = true ↔ vE ≠ nilSlc)⟩
def tbR (t : Tb) : Rsc := ⟨fun ρ H => ∃ m, (tbM m t).holds ρ H⟩
abbrev tB (k : Nat) (t : Tb) : Nat × Option Box := (k, some ⟨0, [], .res (tbR t)⟩)
abbrev tM (k : Nat) (m : Bool) (t : Tb) : Nat × Option Box := (k, some ⟨0, [], .res (tbM m t)⟩)
abbrev tS (k : Nat) (t : Tb) (vE : CV) (vC vP : Value) : Nat × Option Box := (k, some ⟨92, [.val (.int .u32 (t.set : Nat)), .val (.int .i64 (t.most : Nat)), .val (.int .i64 (t.kept : Nat)), vE, .val (.int .i64 t.sc.ver), .val vC, .val vP], false⟩)
abbrev tH (X Hs He Hr : Nat → Option Obj) : Nat → Option Obj := joinM (joinM (joinM X Hs) He) Hr
section
variable {P : Program} {n : Nat} {C : Ctx} {c : Code} {Q : Exit → St → Prop} {X : Nat → Option Obj} {s : List (Nat × LV)} {bx : List (Nat × Option Box)} {k : Nat}
theorem own_join {H A B : Nat → Option Obj} (h : OwnedM C X H) (e : H = joinM A B) (hd : ∀ b, B b ≠ none → A b = none) : OwnedM C X A ∧ OwnedM C (joinM X A) B := by
  subst e
  refine ⟨⟨fun b o hb => ?_⟩, ⟨fun b o hb => ?_⟩⟩
  · refine h.own b o ?_
    cases hc : B b with
    | none => rw [joinM_out hc]; exact hb
    | some o' => have := hd b (by rw [hc]; simp); rw [hb] at this; cases this
  · obtain ⟨h1, h2, h3⟩ := h.own b o (joinM_in hb)
    exact ⟨h1, h2, by rw [joinM_out (hd b (by rw [hb]; simp))]; exact h3⟩
theorem own_far {A B : Nat → Option Obj} (h : OwnedM C (joinM X A) B) {b : Nat} (hb : B b ≠ none) : A b = none := by
  cases ho : B b with
  | none => exact absurd ho hb
  | some o => exact (joinM_none (h.own b o ho).2.2).1
theorem tabM_open {m : Bool} {t : Tb}
    (h : ∀ (Hs He Hr : Nat → Option Obj) (vE vC vP : Value) (ps : List Nat), OwnedM C X Hs → OwnedM C (joinM X Hs) He → OwnedM C (joinM (joinM X Hs) He) Hr → TabIn t Hs He Hr vE vC vP ps → (m = true ↔ vE ≠ nilSlc) →
      LWP P n C c Q ⟨s, tS k t (.val vE) vC vP :: bx, tH X Hs He Hr⟩) : LWP P n C c Q ⟨s, tM k m t :: bx, X⟩ := by
  refine LWP.openRes (fun ρ H h => ?_) fun ρ H vals el fr hR hv hO => ?_
  · obtain ⟨h1, fr, _, _, _, _, _, _, _, h2, _⟩ := h
    exact ⟨_, _, fr, h2, by rw [h1]; rfl⟩
  · obtain ⟨h1, fr', Hs, He, Hr, vE, vC, vP, ps, h2, h3, h4, h5, h6, h7⟩ := hR
    rw [hv] at h2
    simp only [Option.some.injEq, Obj.cells.injEq] at h2
    obtain ⟨rfl, rfl, rfl⟩ := h2
    have hO1 := hO.cut ρ.1
    rw [h3] at hO1 ⊢
    obtain ⟨hA, hB⟩ := own_join hO1 rfl h5
    obtain ⟨hA1, hA2⟩ := own_join hA rfl h4
    rw [← joinM_join, ← joinM_join]
    exact h Hs He Hr vE vC vP ps hA1 hA2 (by rw [joinM_join]; exact hB) h6 h7
theorem tab_open {t : Tb}
    (h : ∀ (Hs He Hr : Nat → Option Obj) (vE vC vP : Value) (ps : List Nat), OwnedM C X Hs → OwnedM C (joinM X Hs) He → OwnedM C (joinM (joinM X Hs) He) Hr → TabIn t Hs He Hr vE vC vP ps →
      LWP P n C c Q ⟨s, tS k t (.val vE) vC vP :: bx, tH X Hs He Hr⟩) : LWP P n C c Q ⟨s, tB k t :: bx, X⟩ :=
  LWP.resEx (fun m => tbM m t) (fun _ _ h => h) fun m => tabM_open fun Hs He Hr vE vC vP ps h1 h2 h3 h4 _ => h Hs He Hr vE vC vP ps h1 h2 h3 h4
theorem tabM_shut {Mid : St → Prop} {m : Bool} {t : Tb} {Hs He Hr : Nat → Option Obj} {vE vC vP : Value} {ps : List Nat} (h1 : OwnedM C X Hs) (h2 : OwnedM C (joinM X Hs) He) (h3 : OwnedM C (joinM (joinM X Hs) He) Hr) (hI : TabIn t Hs He Hr vE vC vP ps) (hm : m = true ↔ vE ≠ nilSlc)
    (h : Leads n C Mid ⟨s, tM k m t :: bx, X⟩) : Leads n C Mid ⟨s, tS k t (.val vE) vC vP :: bx, tH X Hs He Hr⟩ := by
  unfold tH
  rw [joinM_join X Hs He, joinM_join]
  have h3' : OwnedM C (joinM X (joinM Hs He)) Hr := by rw [← joinM_join]; exact h3
  refine Leads.closeRes (vals := tblV t vE vC vP) ((h1.join h2).join h3' ) (fun ρ fr g1 g2 g3 => ?_) h
  refine ⟨g3, fr, Hs, He, Hr, vE, vC, vP, ps, withBlock_at _ _ _, ?_, fun b hb => own_far h2 hb, fun b hb => own_far h3' hb, hI, hm⟩
  rw [cut_with g1]
theorem tab_shut {Mid : St → Prop} {t : Tb} {Hs He Hr : Nat → Option Obj} {vE vC vP : Value} {ps : List Nat} (h1 : OwnedM C X Hs) (h2 : OwnedM C (joinM X Hs) He) (h3 : OwnedM C (joinM (joinM X Hs) He) Hr) (hI : TabIn t Hs He Hr vE vC vP ps)
    (h : Leads n C Mid ⟨s, tB k t :: bx, X⟩) : Leads n C Mid ⟨s, tS k t (.val vE) vC vP :: bx, tH X Hs He Hr⟩ := by
  refine tabM_shut (m := (open Classical in decide (vE ≠ nilSlc))) h1 h2 h3 hI (by simp) (Leads.resTo (R2 := tbR t) (fun ρ H hh => ⟨_, hh⟩) h)
theorem tH_s {Hs He Hr : Nat → Option Obj} (h2 : OwnedM C (joinM X Hs) He) (h3 : OwnedM C (joinM (joinM X Hs) He) Hr) : ∀ b o, Hs b = some o → tH X Hs He Hr b = some o := fun b o h => joinM_has h3 (joinM_has h2 (joinM_in h))
theorem tH_e {Hs He Hr : Nat → Option Obj} (h3 : OwnedM C (joinM (joinM X Hs) He) Hr) : ∀ b o, He b = some o → tH X Hs He Hr b = some o := fun b o h => joinM_has h3 (joinM_in h)
theorem tH_x {Hs He Hr : Nat → Option Obj} (h1 : OwnedM C X Hs) (h2 : OwnedM C (joinM X Hs) He) (h3 : OwnedM C (joinM (joinM X Hs) He) Hr) : ∀ b o, X b = some o → tH X Hs He Hr b = some o := fun b o h => joinM_has h3 (joinM_has h2 (joinM_has h1 h))
end
end Go.Proofs.YtbpdbclndfmcgaaGreatDoor
end
section
namespace Go.Proofs.YtbpdbclndfmcgaaGreatDoor
open Go Go.Lg Go.Lg.Fld Go.Lg.Sg Go.Lg.Col
set_option maxRecDepth 100000
abbrev LnilT : LV := .sv (.one (.val (.pointer none)))
abbrev Vstr (l : List UInt8) : SV := .one (.val (.string ⟨l.toArray⟩))
abbrev vS (ad : Option Addr) (n cap : Nat) : CV := .val (.slice ad n cap)
variable (X : Nat → Option Obj)
section
variable (t : Tb) (ad : Option Addr) (n cap : Nat) (vC vP : Value)
theorem len0 : MSpec Tryz.prog X 18 [Lp 1000000] [tS 1000000 t (vS ad n cap) vC vP] (Ln .i64 (n : Nat)) [tS 1000000 t (vS ad n cap) vC vP] := by
  refine MSpec.intro Tryz.func18 rfl (by kernel_rfl) rfl rfl (by exact (by repeat' (first | refine all_cons_true ?_ ?_ | rfl | exact bytes_inUse | exact vals_inUse | exact mid_inUse rfl))) rfl rfl ?_
  intro C
  (refine LWP.seq <| rgN <| kas rfl <| RunK.nil <| LWP.seq <| LWP.seq <| rgN <| kmv rfl <| K.ptrNil rfl (by kernel_rfl) (.inl ⟨rfl, rfl⟩) .plain <| RunK.nil <| LWP.condF rfl ?_; refine LWP.skip ?_; refine LWP.seq <| rgN <| kmv rfl <| K.nilCheck rfl .plain <| kfa rfl rfl ?_; refine kl1 rfl rfl rfl <| K.lenX rfl SliceT.h rfl .plain ?_; refine kas rfl <| RunK.nil <| LWP.ret ?_)
  exact ⟨[], ⟨[_], ⟨rfl, trivial⟩, rfl⟩, (by repeat' (first | exact trivial | refine And.intro ⟨_, rfl, ?_⟩ ?_ | refine And.intro ⟨_, rfl⟩ ?_ | rfl | exact Box.ren_bytes _ _ _ _ | exact Box.ren_vals _ _ _ _ | exact Box.ren_mid rfl)), rfl, rfl⟩
theorem room0 (hr : n + t.kept ≤ t.most) (hm : t.most ≤ 256) : MSpec Tryz.prog X 20 [Lp 1000000] [tS 1000000 t (vS ad n cap) vC vP] (Ln .i64 (t.most - n - t.kept : Nat)) [tS 1000000 t (vS ad n cap) vC vP] := by
  refine MSpec.intro Tryz.func20 rfl (by kernel_rfl) rfl rfl (by exact (by repeat' (first | refine all_cons_true ?_ ?_ | rfl | exact bytes_inUse | exact vals_inUse | exact mid_inUse rfl))) rfl rfl ?_
  intro C
  have h0 := len0 X t ad n cap vC vP
  have h1 : IntKind.i64.wrap (((t.most : Nat) : Int) - (n : Nat)) = ((t.most - n : Nat) : Int) := by rw [wrap_i64 (by omega)]; omega
  have h2 : IntKind.i64.wrap (((t.most - n : Nat) : Int) - (t.kept : Nat)) = ((t.most - n - t.kept : Nat) : Int) := by rw [wrap_i64 (by omega)]; omega
  (refine LWP.seq <| rgN <| kas rfl <| RunK.nil <| LWP.seq <| LWP.seq <| rgN <| kmv rfl <| K.ptrNil rfl (by kernel_rfl) (.inl ⟨rfl, rfl⟩) .plain <| RunK.nil <| LWP.condF rfl ?_; refine LWP.skip ?_; refine LWP.seq <| rgD mixed <| kmv rfl <| K.nilCheck rfl .plain <| kfa rfl rfl ?_; refine kl1 rfl rfl rfl <| kmv rfl <| K.callR [(1000000, 1000000)] (h0) rfl rfl (by exact (And.intro ⟨_, rfl, rfl⟩ trivial)) (by exact (all_cons_true (all_cons_true rfl (all_cons_true rfl (all_cons_true rfl (all_cons_true rfl (all_cons_true rfl (all_cons_true rfl (all_cons_true rfl rfl))))))) rfl)) rfl rfl rfl rfl .plain <| K.sub rfl rfl h1 .plain <| kmv rfl <| K.nilCheck rfl .plain <| kfa rfl rfl ?_; refine kl1 rfl rfl rfl <| K.sub rfl rfl h2 .plain <| kas rfl <| RunK.nil <| rgA ?_; refine LWP.ret ?_)
  exact ⟨[], ⟨[_], ⟨rfl, trivial⟩, rfl⟩, (by repeat' (first | exact trivial | refine And.intro ⟨_, rfl, ?_⟩ ?_ | refine And.intro ⟨_, rfl⟩ ?_ | rfl | exact Box.ren_bytes _ _ _ _ | exact Box.ren_vals _ _ _ _ | exact Box.ren_mid rfl)), rfl, rfl⟩
theorem seek0_no (row : Int) (h : row < 0 ∨ (n : Int) ≤ row) : MSpec Tryz.prog X 48 [Lp 1000000, Ln .i64 row] [tS 1000000 t (vS ad n cap) vC vP] (Ln .i64 3) [tS 1000000 t (vS ad n cap) vC vP] := by
  refine MSpec.intro Tryz.func48 rfl (by kernel_rfl) rfl rfl (by exact (by repeat' (first | refine all_cons_true ?_ ?_ | rfl | exact bytes_inUse | exact vals_inUse | exact mid_inUse rfl))) rfl rfl ?_
  intro C
  by_cases h0 : row < 0
  · (refine LWP.seq <| rgN <| kas rfl <| RunK.nil <| LWP.seq <| LWP.block <| LWP.seq <| rgN <| kmv rfl <| K.ptrNil rfl (by kernel_rfl) (.inl ⟨rfl, rfl⟩) .plain <| kas rfl <| RunK.nil <| LWP.condF rfl ?_; refine LWP.seq <| rgN <| kmv rfl <| klt rfl rfl (decide_eq_true h0) <| kmv rfl <| RunK.passed rfl rfl rfl <| RunK.passed rfl rfl rfl <| RunK.passed rfl rfl rfl <| RunK.passed rfl rfl rfl <| RunK.passed rfl rfl rfl <| RunK.passed rfl rfl rfl <| RunK.passed rfl rfl rfl <| kpt rfl rfl <| kas rfl ?_; refine RunK.nil <| LWP.condT rfl ?_; refine LWP.seq <| rgN <| kas rfl <| RunK.nil <| LWP.ret ?_)
    exact ⟨[], ⟨[_], ⟨rfl, trivial⟩, rfl⟩, (by repeat' (first | exact trivial | refine And.intro ⟨_, rfl, ?_⟩ ?_ | refine And.intro ⟨_, rfl⟩ ?_ | rfl | exact Box.ren_bytes _ _ _ _ | exact Box.ren_vals _ _ _ _ | exact Box.ren_mid rfl)), rfl, rfl⟩
  · have h1 : (n : Int) ≤ row := by omega
    (refine LWP.seq <| rgN <| kas rfl <| RunK.nil <| LWP.seq <| LWP.block <| LWP.seq <| rgN <| kmv rfl <| K.ptrNil rfl (by kernel_rfl) (.inl ⟨rfl, rfl⟩) .plain <| kas rfl <| RunK.nil <| LWP.condF rfl ?_; refine LWP.seq <| rgN <| kmv rfl <| klt rfl rfl (decide_eq_false h0) <| kmv rfl <| gmv rfl rfl rfl <| gmv rfl rfl rfl <| K.nilCheck rfl (.taken rfl rfl) ?_; refine K.fieldAddr rfl rfl (.taken rfl rfl) ?_; refine K.loadOne rfl rfl rfl (.taken rfl rfl) ?_; refine K.lenX rfl SliceT.h rfl (.taken rfl rfl) ?_; refine K.geq rfl rfl (decide_eq_true h1) (.taken rfl rfl) ?_; refine kpf rfl rfl <| kas rfl <| RunK.nil <| LWP.condT rfl ?_; refine LWP.seq <| rgN <| kas rfl <| RunK.nil <| LWP.ret ?_)
    exact ⟨[], ⟨[_], ⟨rfl, trivial⟩, rfl⟩, (by repeat' (first | exact trivial | refine And.intro ⟨_, rfl, ?_⟩ ?_ | refine And.intro ⟨_, rfl⟩ ?_ | rfl | exact Box.ren_bytes _ _ _ _ | exact Box.ren_vals _ _ _ _ | exact Box.ren_mid rfl)), rfl, rfl⟩
theorem seek0 (i : Nat) (h : i < n) : MSpec Tryz.prog X 48 [Lp 1000000, Ln .i64 (i : Nat)] [tS 1000000 t (vS ad n cap) vC vP] (Ln .i64 0) [tS 1000000 t (vS ad n cap) vC vP] := by
  refine MSpec.intro Tryz.func48 rfl (by kernel_rfl) rfl rfl (by exact (by repeat' (first | refine all_cons_true ?_ ?_ | rfl | exact bytes_inUse | exact vals_inUse | exact mid_inUse rfl))) rfl rfl ?_
  intro C
  (refine LWP.seq <| rgN <| kas rfl <| RunK.nil <| LWP.seq <| LWP.block <| LWP.seq <| rgN <| kmv rfl <| K.ptrNil rfl (by kernel_rfl) (.inl ⟨rfl, rfl⟩) .plain <| kas rfl <| RunK.nil <| LWP.condF rfl ?_; refine LWP.seq <| rgN <| kmv rfl <| klt rfl rfl (decide_eq_false (by omega)) <| kmv rfl <| gmv rfl rfl rfl <| gmv rfl rfl rfl <| K.nilCheck rfl (.taken rfl rfl) ?_; refine K.fieldAddr rfl rfl (.taken rfl rfl) ?_; refine K.loadOne rfl rfl rfl (.taken rfl rfl) ?_; refine K.lenX rfl SliceT.h rfl (.taken rfl rfl) ?_; refine K.geq rfl rfl (decide_eq_false (by omega)) (.taken rfl rfl) ?_; refine kpf rfl rfl <| kas rfl <| RunK.nil <| LWP.condF rfl ?_; refine LWP.skip ?_; refine LWP.seq <| rgN <| kas rfl <| RunK.nil <| LWP.ret ?_)
  exact ⟨[], ⟨[_], ⟨rfl, trivial⟩, rfl⟩, (by repeat' (first | exact trivial | refine And.intro ⟨_, rfl, ?_⟩ ?_ | refine And.intro ⟨_, rfl⟩ ?_ | rfl | exact Box.ren_bytes _ _ _ _ | exact Box.ren_vals _ _ _ _ | exact Box.ren_mid rfl)), rfl, rfl⟩
end
theorem place1_spec (c : Cp) (fad : Option Addr) (fcap : Nat) (id : Int) {b : Nat} {arr : Array Value} {el : TypeId} {fr : Nat × Nat} (hX : X b = some (.cells arr el fr)) (h0 : arr[0]? = some (.int .i64 id)) :
    PSpec Tryz.prog X 81 [Cx c fad fcap, Vp b] (Lb (c.id == id)) := by
  refine PSpec.intro Tryz.func81 rfl (by kernel_rfl) rfl rfl ?_
  intro C
  (refine LWP.seq <| rgN <| K.box rfl rfl rfl .plain <| kas rfl <| RunK.nil <| LWP.seq <| rgN <| kfa rfl rfl ?_; refine kl1 rfl rfl rfl <| K.loadX rfl hX rfl h0 .plain <| keq rfl rfl rfl <| kas rfl <| RunK.nil <| LWP.ret ?_)
  exact ⟨[_], ⟨rfl, trivial⟩, rfl⟩
theorem place0 (t : Tb) (v : Value) (vP : Value) (cs : List Cp) (cad : Option Addr) (cc : Nat) (id : Int) (hin : CompsIn X cad cs) (hbig : cs.length < 4611686018427387904) :
    MSpec Tryz.prog X 45 [Lp 1000000, Ln .i64 id] [tS 1000000 t (.val v) (.slice cad cs.length cc) vP] (Ln .i64 (findI (fun c => c.id == id) cs)) [tS 1000000 t (.val v) (.slice cad cs.length cc) vP] := by
  refine MSpec.intro Tryz.func45 rfl (by kernel_rfl) rfl rfl (by exact (by repeat' (first | refine all_cons_true ?_ ?_ | rfl | exact bytes_inUse | exact vals_inUse | exact mid_inUse rfl))) rfl rfl ?_
  intro C
  (refine LWP.seq <| rgN <| K.box1 rfl rfl rfl .plain <| kas rfl <| RunK.nil <| LWP.seq ?_)
  refine LWP.le (σ' := ⟨[(3, Lp 3), (0, Lp 1000000)], [(3, some ⟨3, [Value.int .i64 id].map .val, false⟩), tS 1000000 t (.val v) (.slice cad cs.length cc) vP], X⟩) (Le.of (by exact ⟨rfl, rfl, trivial⟩) (by exact ⟨rfl, rfl, trivial⟩) (by exact rfl) (by exact rfl) (by repeat' (first | refine all_cons_true ?_ ?_ | rfl | exact bytes_inUse | exact vals_inUse | exact mid_inUse rfl))) ?_
  refine LWP.freezePtr (by rfl) (by rfl) (by rfl) fun b arr0 fr0 hn _ h0 => ?_
  have hin' := hin.mono (withBlock_old (o := .cells arr0 3 fr0) hn)
  have hp := fun (c : Cp) (_ : c ∈ cs) (fad : Option Addr) (fcap : Nat) => place1_spec _ c fad fcap id (withBlock_at X b (.cells arr0 3 fr0)) (at_zero h0)
  have hq := idxC_spec _ cad cc cs hin' hbig 81 [.pointer (some ⟨b, 0, none⟩)] (fun c => c.id == id) hp
  (refine rgN <| kmv rfl <| K.nilCheck rfl .plain <| kfa rfl rfl ?_; refine kfa rfl rfl ?_; refine kl1 rfl rfl rfl <| K.makeFunc rfl rfl .plain ?_; refine kca rfl rfl hq <| kas rfl <| RunK.nil <| LWP.ret ?_)
  exact ⟨[], ⟨[_], ⟨rfl, trivial⟩, rfl⟩, (by repeat' (first | exact trivial | refine And.intro ⟨_, rfl, ?_⟩ ?_ | refine And.intro ⟨_, rfl⟩ ?_ | rfl | exact Box.ren_bytes _ _ _ _ | exact Box.ren_vals _ _ _ _ | exact Box.ren_mid rfl)), rfl, rfl⟩
end Go.Proofs.YtbpdbclndfmcgaaGreatDoor
end
section
namespace Go.Proofs.YtbpdbclndfmcgaaGreatDoor
open Go Go.Lg Go.Lg.Fld Go.Lg.Sg Go.Lg.Col
set_option maxRecDepth 100000
theorem colR_root (z q : Nat) (L : List (List UInt8)) : ∀ ρ H, (colR z q L).holds ρ H → H ρ.1 ≠ none := fun ρ H h => by
  obtain ⟨_, _, _, _, _, h2, _⟩ := h
  rw [h2]; simp
section
variable {P : Program} {n : Nat} {C : Ctx} {c : Code} {Q : Exit → St → Prop} {Y : Nat → Option Obj} {s : List (Nat × LV)} {bx : List (Nat × Option Box)}
theorem tcol_open {Hr : Nat → Option Obj} {ps : List Nat} {Rs : List Rsc} {k kk : Nat} {R : Rsc} (hO : OwnedM C Y Hr) (hR : Refs Hr ps Rs) (hi : Rs[k]? = some R)
    (hs : s.all (fun p => p.2.inUse bx) = true) (hb : bx.all (fun p => match p.2 with | some b => b.cells.all (CV.inUse bx) | none => true) = true) (hk : Go.Lg.look kk bx = none) (hlt : kk < 1000000)
    (h : ∀ (b : Nat) (H0 : Nat → Option Obj), ps[k]? = some b → OwnedM C Y H0 → (∀ (R' : Rsc) (m' : Nat) (Hc' : Nat → Option Obj), R'.holds (b, m') Hc' → Hc' b ≠ none → OwnedM C (joinM Y H0) Hc' → Refs (joinM H0 Hc') ps (Rs.set k R')) →
      LWP P n C c Q ⟨s, (kk, some ⟨0, [], .res (atR b R)⟩) :: bx, joinM Y H0⟩) : LWP P n C c Q ⟨s, bx, joinM Y Hr⟩ := by
  obtain ⟨b, m, Hc, h1, h2, h3, h4, h5⟩ := hR.take hi
  exact LWP.takeRes hO h4 h2 h3 hs hb hk hlt (h b (minusM Hr Hc) h1 (hO.minus Hc) fun R' m' Hc' g1 g2 g3 => h5 R' m' Hc' g1 g2 fun x hx => own_far g3 hx)
theorem tcol_shut {Mid : St → Prop} {H0 : Nat → Option Obj} {b kk : Nat} {R' : Rsc} (hO : OwnedM C Y H0) (hroot : ∀ ρ H, R'.holds ρ H → H ρ.1 ≠ none)
    (hs : s.all (fun p => p.2.inUse bx) = true) (hb : bx.all (fun p => match p.2 with | some b => b.cells.all (CV.inUse bx) | none => true) = true) (hk : Go.Lg.look kk bx = none)
    (h : ∀ (m' : Nat) (Hc' : Nat → Option Obj), R'.holds (b, m') Hc' → Hc' b ≠ none → OwnedM C (joinM Y H0) Hc' → OwnedM C Y (joinM H0 Hc') → Leads n C Mid ⟨s, bx, joinM Y (joinM H0 Hc')⟩) : Leads n C Mid ⟨s, (kk, some ⟨0, [], .res (atR b R')⟩) :: bx, joinM Y H0⟩ := by
  refine Leads.fixAlone hs hb hk fun ρ H hh hO2 => ?_
  obtain ⟨b', m'⟩ := ρ
  obtain ⟨rfl, hR⟩ := hh
  rw [joinM_join]
  exact h m' H hR (hroot _ _ hR) hO2 (hO.join hO2)
end
abbrev atB (k b z q : Nat) (L : List (List UInt8)) : Nat × Option Box := (k, some ⟨0, [], .res (atR b (colR z q L))⟩)
theorem tget_small (t : Tb) (row comp : Int) : tgetE t row comp = 0 ∨ tgetE t row comp = 3 ∨ tgetE t row comp = 6 := by unfold tgetE; (repeat' split) <;> omega
variable (X : Nat → Option Obj)
section
variable (t : Tb) (hk : TbOk t) (ad : Option Addr) (cap : Nat) (vP : Value) (row comp : Int)
include hk
theorem find0_no (vC : Value) (h : tgetE t row comp ≠ 0) : MSpec Tryz.prog X 50 [Lp 1000000, Ln .i64 row, Ln .i64 comp] [tS 1000000 t (vS ad t.l.length cap) vC vP] (.tup [Sn .i64 0, Sn .i64 (tgetE t row comp)]) [tS 1000000 t (vS ad t.l.length cap) vC vP] := by
  refine MSpec.intro Tryz.func50 rfl (by kernel_rfl) rfl rfl (by exact (by repeat' (first | refine all_cons_true ?_ ?_ | rfl | exact bytes_inUse | exact vals_inUse | exact mid_inUse rfl))) rfl rfl ?_
  intro C
  unfold tgetE at h ⊢
  by_cases hr : rowB t row = true
  · rw [if_pos hr] at h ⊢
    unfold rowB at hr
    rw [Bool.and_eq_true, decide_eq_true_iff, decide_eq_true_iff] at hr
    obtain ⟨i, rfl⟩ : ∃ i : Nat, row = i := ⟨row.toNat, by omega⟩
    have hs := seek0 X t ad t.l.length cap vC vP i (by omega)
    cases hp : (placeT t.set comp).isSome with
    | true => rw [hp] at h; exact absurd rfl h
    | false =>
      have hh := gHas X t.set hk.set.1 comp
      rw [t_has, hp] at hh
      (refine LWP.seq <| rgN <| kas rfl <| kas rfl <| RunK.nil <| LWP.seq <| LWP.seq <| rgN <| kmv rfl <| kmv rfl <| K.callR [(1000000, 1000000)] (hs) rfl rfl (by exact (And.intro ⟨_, rfl, rfl⟩ trivial)) (by exact (all_cons_true (all_cons_true rfl (all_cons_true rfl (all_cons_true rfl (all_cons_true rfl (all_cons_true rfl (all_cons_true rfl (all_cons_true rfl rfl))))))) rfl)) rfl rfl rfl rfl .plain <| kas rfl <| RunK.nil <| LWP.seq ?_; refine rgN <| kmv rfl <| kne rfl rfl ((bne_eq_false_iff_eq.2 (by omega))) <| RunK.nil <| LWP.condF rfl ?_; refine LWP.skip ?_; refine LWP.seq <| LWP.seq <| rgN <| kmv rfl <| K.nilCheck rfl .plain <| kfa rfl rfl ?_; refine kl1 rfl rfl rfl <| kmv rfl <| kca rfl rfl hh <| K.not rfl rfl .plain <| RunK.nil <| LWP.condT rfl ?_; refine LWP.seq <| rgN <| kas rfl <| kas rfl <| RunK.nil <| LWP.ret ?_)
      exact ⟨[], ⟨[_, _], ⟨rfl, rfl, trivial⟩, rfl⟩, (by repeat' (first | exact trivial | refine And.intro ⟨_, rfl, ?_⟩ ?_ | refine And.intro ⟨_, rfl⟩ ?_ | rfl | exact Box.ren_bytes _ _ _ _ | exact Box.ren_vals _ _ _ _ | exact Box.ren_mid rfl)), rfl, rfl⟩
  · rw [if_neg hr]
    have hs := seek0_no X t ad t.l.length cap vC vP row (by unfold rowB at hr; rw [Bool.and_eq_true, decide_eq_true_iff, decide_eq_true_iff] at hr; omega)
    (refine LWP.seq <| rgN <| kas rfl <| kas rfl <| RunK.nil <| LWP.seq <| LWP.seq <| rgN <| kmv rfl <| kmv rfl <| K.callR [(1000000, 1000000)] (hs) rfl rfl (by exact (And.intro ⟨_, rfl, rfl⟩ trivial)) (by exact (all_cons_true (all_cons_true rfl (all_cons_true rfl (all_cons_true rfl (all_cons_true rfl (all_cons_true rfl (all_cons_true rfl (all_cons_true rfl rfl))))))) rfl)) rfl rfl rfl rfl .plain <| kas rfl <| RunK.nil <| LWP.seq ?_; refine rgN <| kmv rfl <| kne rfl rfl (bne_iff_ne.2 (by omega)) <| RunK.nil <| LWP.condT rfl ?_; refine LWP.seq <| rgN <| kmv rfl <| kas rfl <| kas rfl <| RunK.nil <| LWP.ret ?_)
    exact ⟨[], ⟨[_, _], ⟨rfl, rfl, trivial⟩, rfl⟩, (by repeat' (first | exact trivial | refine And.intro ⟨_, rfl, ?_⟩ ?_ | refine And.intro ⟨_, rfl⟩ ?_ | rfl | exact Box.ren_bytes _ _ _ _ | exact Box.ren_vals _ _ _ _ | exact Box.ren_mid rfl)), rfl, rfl⟩
theorem find0 (i k : Nat) (cad : Option Addr) (cc : Nat) (hin : CompsIn X cad (onlyC t.sc.cs t.set)) (hi : i < t.l.length) (hp : placeT t.set comp = some k) :
    MSpec Tryz.prog X 50 [Lp 1000000, Ln .i64 (i : Nat), Ln .i64 comp] [tS 1000000 t (vS ad t.l.length cap) (.slice cad (onlyC t.sc.cs t.set).length cc) vP] (.tup [Sn .i64 (k : Nat), Sn .i64 0]) [tS 1000000 t (vS ad t.l.length cap) (.slice cad (onlyC t.sc.cs t.set).length cc) vP] := by
  refine MSpec.intro Tryz.func50 rfl (by kernel_rfl) rfl rfl (by exact (by repeat' (first | refine all_cons_true ?_ ?_ | rfl | exact bytes_inUse | exact vals_inUse | exact mid_inUse rfl))) rfl rfl ?_
  intro C
  have hs := seek0 X t ad t.l.length cap (.slice cad (onlyC t.sc.cs t.set).length cc) vP i hi
  have hh := gHas X t.set hk.set.1 comp
  rw [t_has, hp] at hh
  have hpl := place0 X t (.slice ad t.l.length cap) vP (onlyC t.sc.cs t.set) cad cc comp hin (by have := t_len24 hk; omega)
  rw [t_place hk, hp] at hpl
  generalize (onlyC t.sc.cs t.set).length = nc at *
  (refine LWP.seq <| rgN <| kas rfl <| kas rfl <| RunK.nil <| LWP.seq <| LWP.seq <| rgN <| kmv rfl <| kmv rfl <| K.callR [(1000000, 1000000)] (hs) rfl rfl (by exact (And.intro ⟨_, rfl, rfl⟩ trivial)) (by exact (all_cons_true (all_cons_true rfl (all_cons_true rfl (all_cons_true rfl (all_cons_true rfl (all_cons_true rfl (all_cons_true rfl (all_cons_true rfl rfl))))))) rfl)) rfl rfl rfl rfl .plain <| kas rfl <| RunK.nil <| LWP.seq ?_; refine rgN <| kmv rfl <| kne rfl rfl ((bne_eq_false_iff_eq.2 (by omega))) <| RunK.nil <| LWP.condF rfl ?_; refine LWP.skip ?_; refine LWP.seq <| LWP.seq <| rgN <| kmv rfl <| K.nilCheck rfl .plain <| kfa rfl rfl ?_; refine kl1 rfl rfl rfl <| kmv rfl <| kca rfl rfl hh <| K.not rfl rfl .plain <| RunK.nil <| LWP.condF rfl ?_; refine LWP.skip ?_; refine LWP.seq <| rgN <| kmv rfl <| kmv rfl <| K.callR [(1000000, 1000000)] (hpl) rfl rfl (by exact (And.intro ⟨_, rfl, rfl⟩ trivial)) (by exact (all_cons_true (all_cons_true rfl (all_cons_true rfl (all_cons_true rfl (all_cons_true rfl (all_cons_true rfl (all_cons_true rfl (all_cons_true rfl rfl))))))) rfl)) rfl rfl rfl rfl .plain <| kas rfl <| kas rfl <| RunK.nil <| LWP.ret ?_)
  exact ⟨[], ⟨[_, _], ⟨rfl, rfl, trivial⟩, rfl⟩, (by repeat' (first | exact trivial | refine And.intro ⟨_, rfl, ?_⟩ ?_ | refine And.intro ⟨_, rfl⟩ ?_ | rfl | exact Box.ren_bytes _ _ _ _ | exact Box.ren_vals _ _ _ _ | exact Box.ren_mid rfl)), rfl, rfl⟩
end
theorem tGet_no (t : Tb) (hk : TbOk t) (row comp : Int) (h : tgetE t row comp ≠ 0) : MSpec Tryz.prog X 12 [Lp 1000000, Ln .i64 row, Ln .i64 comp] [tB 1000000 t] (.tup [Vnil, Sn .i64 (tgetE t row comp)]) [tB 1000000 t] := by
  refine MSpec.intro Tryz.func12 rfl (by kernel_rfl) rfl rfl (by exact (by repeat' (first | refine all_cons_true ?_ ?_ | rfl | exact bytes_inUse | exact vals_inUse | exact mid_inUse rfl))) rfl rfl ?_
  intro C
  refine LWP.ends (tab_open fun Hs He Hr vE vC vP ps h1 h2 h3 hI => ?_)
  obtain ⟨ad, cap, rfl⟩ := hI.ents.slice
  rw [List.length_map] at hI ⊢
  have hs := find0_no (tH X Hs He Hr) t hk ad cap vP row comp vC h
  have hsm := tget_small t row comp
  generalize tgetE t row comp = e at *
  (refine LWP.seq <| rgN <| kas rfl <| kas rfl <| RunK.nil <| LWP.seq <| rgN <| kmv rfl <| kmv rfl <| kmv rfl <| K.callR [(1000000, 1000000)] (hs) rfl rfl (by exact (And.intro ⟨_, rfl, rfl⟩ trivial)) (by exact (all_cons_true (all_cons_true rfl (all_cons_true rfl (all_cons_true rfl (all_cons_true rfl (all_cons_true rfl (all_cons_true rfl (all_cons_true rfl rfl))))))) rfl)) rfl rfl rfl rfl .plain <| kmv rfl <| kex rfl rfl <| kex rfl rfl ?_; refine kas rfl <| kas rfl <| RunK.nil <| LWP.seq <| LWP.seq <| rgN <| kmv rfl <| kne rfl rfl (r := true) (bne_iff_ne.2 h) <| RunK.nil <| LWP.condT rfl ?_; refine LWP.seq <| rgN <| kmv rfl <| kas rfl <| kas rfl <| RunK.nil <| LWP.ret ?_)
  refine tab_shut h1 h2 h3 hI (Leads.done ?_)
  exact ⟨[], ⟨[_, _], ⟨rfl, rfl, trivial⟩, rfl⟩, (by repeat' (first | exact trivial | refine And.intro ⟨_, rfl, ?_⟩ ?_ | refine And.intro ⟨_, rfl⟩ ?_ | rfl | exact Box.ren_bytes _ _ _ _ | exact Box.ren_vals _ _ _ _ | exact Box.ren_mid rfl)), rfl, rfl⟩
theorem tget_ok {t : Tb} (hk : TbOk t) {row comp : Int} (h : tgetE t row comp = 0) : ∃ (i k : Nat) (c : Cp) (r : Rw) (p : Pt), row = i ∧ i < t.l.length ∧ placeT t.set comp = some k ∧ (onlyC t.sc.cs t.set)[k]? = some c ∧ c.id = comp ∧ t.l[i]? = some r ∧ r.p[k]? = some p ∧ fitErr c.fs p.val = 0 ∧ (colL t.l k c)[i]? = some (packB c.fs p.val) ∧ getV t row comp = p.val ∧ bytesT t row comp = packB c.fs p.val := by
  unfold tgetE at h
  by_cases hr : rowB t row = true
  case neg => rw [if_neg hr] at h; cases h
  rw [if_pos hr] at h
  unfold rowB at hr
  rw [Bool.and_eq_true, decide_eq_true_iff, decide_eq_true_iff] at hr
  obtain ⟨i, rfl⟩ : ∃ i : Nat, row = i := ⟨row.toNat, by omega⟩
  cases hp : placeT t.set comp with
  | none => rw [hp] at h; cases h
  | some k =>
    obtain ⟨c, hc, hid, hfs, _⟩ := t_at hk hp
    obtain ⟨r, hr'⟩ : ∃ r, t.l[i]? = some r := ⟨_, List.getElem?_eq_getElem (by omega)⟩
    obtain ⟨p, hp1, _, hp3, hp4⟩ := t_row hk hc hr'
    have hv : getV t (i : Nat) comp = p.val := by unfold getV valT; rw [hp]; simp only [Int.toNat_natCast, hr', hp1]
    exact ⟨i, k, c, r, p, rfl, by omega, rfl, hc, hid, hr', hp1, hp3, hp4, hv, by unfold bytesT; rw [hfs, hv]⟩
set_option maxHeartbeats 3200000 in
theorem tBytes (t : Tb) (hk : TbOk t) (row comp : Int) (h : tgetE t row comp = 0) : MSpec Tryz.prog X 14 [Lp 1000000, Ln .i64 row, Ln .i64 comp] [tB 1000000 t] (.tup [Vstr (bytesT t row comp), Sn .i64 0]) [tB 1000000 t] := by
  obtain ⟨i, k, c, r, p, rfl, hi, hp, hc, _, hr, hp1, hf, hL, _, hv⟩ := tget_ok hk h
  rw [hv]
  have h24 := t_len24 hk
  refine MSpec.intro Tryz.func14 rfl (by kernel_rfl) rfl rfl (by exact (by repeat' (first | refine all_cons_true ?_ ?_ | rfl | exact bytes_inUse | exact vals_inUse | exact mid_inUse rfl))) rfl rfl ?_
  intro C
  refine LWP.ends (tab_open fun Hs He Hr vE vC vP ps h1 h2 h3 hI => ?_)
  obtain ⟨ad, cap, rfl⟩ := hI.ents.slice
  obtain ⟨cb, cc, rfl, hin⟩ := hI.sc
  rw [List.length_map] at hI ⊢
  have hs := find0 (tH X Hs He Hr) t hk ad cap vP comp i k (some ⟨cb, 0, none⟩) cc (hin.mono (tH_s h2 h3)) hi hp
  (refine LWP.seq <| rgN <| kas rfl <| kas rfl <| RunK.nil <| LWP.seq <| rgN <| kmv rfl <| kmv rfl <| kmv rfl <| K.callR [(1000000, 1000000)] (hs) rfl rfl (by exact (And.intro ⟨_, rfl, rfl⟩ trivial)) (by exact (all_cons_true (all_cons_true rfl (all_cons_true rfl (all_cons_true rfl (all_cons_true rfl (all_cons_true rfl (all_cons_true rfl (all_cons_true rfl rfl))))))) rfl)) rfl rfl rfl rfl .plain <| kmv rfl <| kex rfl rfl <| kex rfl rfl ?_; refine kas rfl <| kas rfl <| RunK.nil <| LWP.seq <| LWP.seq <| rgN <| kmv rfl <| kne rfl rfl ((bne_eq_false_iff_eq.2 (by omega))) <| RunK.nil <| LWP.condF rfl ?_; refine LWP.skip ?_; refine LWP.seq ?_)
  refine LWP.le (σ' := ⟨[(0, Lp 1000000), (1, Ln .i64 (i : Nat)), (8, Ln .i64 (k : Nat))], [tS 1000000 t (vS ad t.l.length cap) (.slice (some ⟨cb, 0, none⟩) (onlyC t.sc.cs t.set).length cc) vP], tH X Hs He Hr⟩) (Le.of (by exact ⟨rfl, rfl, rfl, trivial⟩) (by exact ⟨rfl, trivial⟩) (by exact rfl) (by exact rfl) (by repeat' (first | refine all_cons_true ?_ ?_ | rfl | exact bytes_inUse | exact vals_inUse | exact mid_inUse rfl))) ?_
  refine tcol_open (kk := 501) h3 hI.refs (colsG_at hc) rfl rfl rfl (by omega) fun b H0 hb hO0 hback => ?_
  have hg := (cGet_ok (joinM (joinM (joinM X Hs) He) H0) (rowSize c.fs) t.most _ i _ hL).at (b := b)
  have hcol := colR_root (rowSize c.fs) t.most (colL t.l k c)
  have hset : (colsT t).set k (colR (rowSize c.fs) t.most (colL t.l k c)) = colsT t := colsG_set hc fun _ _ _ _ => rfl
  obtain ⟨pad, pcap, rfl, hP⟩ := hI.ptrs.mono (tH_s h2 hO0)
  have hkl := (List.getElem?_eq_some_iff.1 hb).1
  obtain ⟨pblk, parr, pel, pfr, rfl, hPX, hPa⟩ := hP k b hb
  have hio : 0 + Int.toNat (k : Int) * 1 = k := by simp
  generalize packB c.fs p.val = B at *
  (refine rgN <| kmv rfl <| K.nilCheck rfl .plain <| kfa rfl rfl ?_; refine kl1 rfl rfl rfl <| kmv rfl <| K.indexX rfl rfl SliceT.h (by omega) hio .plain <| K.loadX rfl hPX rfl hPa .plain <| kmv rfl <| K.callR [(1000000, 501)] (hg) rfl rfl (by exact (And.intro ⟨_, rfl, rfl⟩ trivial)) (by exact (all_cons_true rfl rfl)) rfl rfl rfl rfl .plain <| kex rfl rfl <| kex rfl rfl <| kas rfl <| kas rfl <| RunK.nil <| LWP.ret ?_)
  refine Leads.le (σ' := ⟨[(6, .sv (Vstr B)), (7, Ln .i64 0)], [atB 501 b (rowSize c.fs) t.most (colL t.l k c), tS 1000000 t (vS ad t.l.length cap) (.slice (some ⟨cb, 0, none⟩) (onlyC t.sc.cs t.set).length cc) (.slice (some ⟨pblk, 0, none⟩) ps.length pcap)], joinM (joinM (joinM X Hs) He) H0⟩) (Le.of (by exact ⟨rfl, rfl, trivial⟩) (by exact ⟨rfl, rfl, trivial⟩) (by exact rfl) (by exact rfl) (by repeat' (first | refine all_cons_true ?_ ?_ | rfl | exact bytes_inUse | exact vals_inUse | exact mid_inUse rfl))) ?_
  refine tcol_shut hO0 hcol rfl rfl rfl fun m' Hc' g1 g2 g3 g4 => ?_
  have hB := hback _ m' Hc' g1 g2 g3
  rw [hset] at hB
  refine tab_shut h1 h2 g4 ⟨⟨cb, cc, rfl, hin⟩, hI.ptrs, hB, hI.ents, hI.two⟩ (Leads.done ?_)
  exact ⟨[], ⟨[_, _], ⟨rfl, rfl, trivial⟩, rfl⟩, (by repeat' (first | exact trivial | refine And.intro ⟨_, rfl, ?_⟩ ?_ | refine And.intro ⟨_, rfl⟩ ?_ | rfl | exact Box.ren_bytes _ _ _ _ | exact Box.ren_vals _ _ _ _ | exact Box.ren_mid rfl)), rfl, rfl⟩
end Go.Proofs.YtbpdbclndfmcgaaGreatDoor
end
