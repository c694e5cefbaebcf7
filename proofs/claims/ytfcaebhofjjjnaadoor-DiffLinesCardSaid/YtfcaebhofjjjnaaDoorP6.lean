/- A piece of a proof over this program: contracts of its functions, and a logic to prove them by. -/
import Derived.Test.YtfcaebhofjjjnaaDoorP2
import Derived.Test.YtfcaebhofjjjnaaDoorP5
import Derived.Test.YtfcaebhofjjjnaaDoorShelf
import Derived.Lib.AppendIntMem
import Derived.Test.YtfcaebhofjjjnaaDoorRows
import Derived.Test.YtfcaebhofjjjnaaDoorTie
import Derived.Test.YtfcaebhofjjjnaaDoorCards
import Derived.ProofKit
import Derived.LaidMore
import Derived.OpenShut
import Derived.Stop.Joined
import Derived.Stop.LaidErr
import Derived.Lib.SmallJoins
import Derived.SevenTiedAt
section
namespace Go.Proofs.YtfcaebhofjjjnaaDoor
open Go Go.Lg Go.Lg.Fld
set_option maxRecDepth 100000
variable (X : Nat → Option Obj)
theorem dHas (c : Cp) (fad : Option Addr) (fcap : Nat) (nm : List UInt8) (hF : FieldsIn X fad c.fs) (hbig : c.fs.length < 4611686018427387904) :
    PSpec Tryd.prog X 52 [Cx c fad fcap, Ls nm] (Lb (decide (0 ≤ fldIx c.fs nm))) := by
  refine PSpec.intro Tryd.func52 rfl (by kernel_rfl) rfl rfl ?_
  intro C
  have hq := fieldNamed_spec X c fad fcap nm hF hbig (fldIx c.fs nm) _ _ rfl rfl rfl
  generalize (if (0 : Int) > fldIx c.fs nm then 0 else fldIx c.fs nm) = m at hq
  generalize decide (0 ≤ fldIx c.fs nm) = b at hq ⊢
  (refine LWP.seq <| LWP.region (by kernel_rfl) <| K.box rfl rfl rfl .plain <| kas rfl <| RunK.nil <| LWP.seq <| LWP.region (by kernel_rfl) <| K.loadAll rfl rfl rfl .plain ?_; refine kmv rfl <| kca rfl rfl hq <| kmv rfl <| kex rfl rfl <| kex rfl rfl <| kas rfl <| kas rfl <| RunK.nil <| LWP.seq <| LWP.region (by kernel_rfl) <| kmv rfl <| kas rfl <| RunK.nil <| LWP.ret ?_)
  exact ⟨[_], ⟨rfl, trivial⟩, rfl⟩
section
variable (f : Fl) (o : Cp) (oad : Option Addr) (ocap : Nat) (hO : FieldsIn X oad o.fs) (hol : o.fs.length ≤ 12) {b : Nat} {arr : Array Value} {el : TypeId} {fr : Nat × Nat} (hX : X b = some (.cells arr el fr)) (h0 : ∃ sp, arr.toList = [Value.int .i64 o.id, .string ⟨o.nm.toArray⟩, .slice oad o.fs.length ocap] ++ sp)
include hO hol hX h0
theorem alone1_spec : PSpec Tryd.prog X 51 [Fx f, Vp b] (Lb (!inF o.fs f)) := by
  obtain ⟨sp, h0⟩ := h0
  refine PSpec.intro Tryd.func51 rfl (by kernel_rfl) rfl rfl ?_
  intro C
  have hsz : 0 + 3 ≤ arr.size := by rw [← Array.length_toList, h0, List.length_append]; exact Nat.le_add_right 3 _
  have hcs : ((arr.toList.drop 0).take 3).map CV.val = [.val (.int .i64 o.id), .val (.string ⟨o.nm.toArray⟩), .val (.slice oad o.fs.length ocap)] := by rw [h0]; rfl
  have hq := dHas X o oad ocap f.nm hO (by omega)
  rw [show decide (0 ≤ fldIx o.fs f.nm) = inF o.fs f from rfl] at hq
  generalize inF o.fs f = r at *
  (refine LWP.seq <| LWP.region (by kernel_rfl) <| K.box rfl rfl rfl .plain <| kas rfl <| RunK.nil <| LWP.seq <| LWP.region (by kernel_rfl) <| K.loadXagg rfl hX (by kernel_rfl) hsz hcs .plain <| kfa rfl rfl ?_; refine kl1 rfl rfl rfl <| kca rfl rfl hq <| K.not rfl rfl .plain <| kas rfl <| RunK.nil <| LWP.ret ?_)
  exact ⟨[_], ⟨rfl, trivial⟩, rfl⟩
theorem shared1_spec : PSpec Tryd.prog X 55 [Fx f, Vp b] (Lb (inF o.fs f)) := by
  obtain ⟨sp, h0⟩ := h0
  refine PSpec.intro Tryd.func55 rfl (by kernel_rfl) rfl rfl ?_
  intro C
  have hsz : 0 + 3 ≤ arr.size := by rw [← Array.length_toList, h0, List.length_append]; exact Nat.le_add_right 3 _
  have hcs : ((arr.toList.drop 0).take 3).map CV.val = [.val (.int .i64 o.id), .val (.string ⟨o.nm.toArray⟩), .val (.slice oad o.fs.length ocap)] := by rw [h0]; rfl
  have hq := dHas X o oad ocap f.nm hO (by omega)
  rw [show decide (0 ≤ fldIx o.fs f.nm) = inF o.fs f from rfl] at hq
  generalize inF o.fs f = r at *
  (refine LWP.seq <| LWP.region (by kernel_rfl) <| K.box rfl rfl rfl .plain <| kas rfl <| RunK.nil <| LWP.seq <| LWP.region (by kernel_rfl) <| K.loadXagg rfl hX (by kernel_rfl) hsz hcs .plain <| kfa rfl rfl ?_; refine kl1 rfl rfl rfl <| kca rfl rfl hq <| kas rfl <| RunK.nil <| LWP.ret ?_)
  exact ⟨[_], ⟨rfl, trivial⟩, rfl⟩
theorem retyped1_spec : PSpec Tryd.prog X 53 [Fx f, Vp b] (Lb (retF o.fs f)) := by
  obtain ⟨sp, h0⟩ := h0
  refine PSpec.intro Tryd.func53 rfl (by kernel_rfl) rfl rfl ?_
  intro C
  have hsz : 0 + 3 ≤ arr.size := by rw [← Array.length_toList, h0, List.length_append]; exact Nat.le_add_right 3 _
  have hcs : ((arr.toList.drop 0).take 3).map CV.val = [.val (.int .i64 o.id), .val (.string ⟨o.nm.toArray⟩), .val (.slice oad o.fs.length ocap)] := by rw [h0]; rfl
  have hf2 : arr[0 + 2]? = some (.slice oad o.fs.length ocap) := by rw [← Array.getElem?_toList, h0]; rfl
  have hq := fieldNamed_spec X o oad ocap f.nm hO (by omega) (fldIx o.fs f.nm) _ _ rfl rfl rfl
  rw [retF_ix]
  by_cases hi : 0 ≤ fldIx o.fs f.nm
  · obtain ⟨k, g, hk, hn, he, hg, _⟩ := fldIx_some hi
    rw [show inF o.fs f = true by unfold inF; exact decide_eq_true hi, hg]
    rw [he, if_neg (by omega), decide_eq_true (by omega)] at hq
    have hkl := (List.getElem?_eq_some_iff.1 hk).1
    obtain ⟨fb, fo, farr, fel, ffr, h1, hFX, _, h4⟩ := hO.rows k g.vals (by rw [List.getElem?_map, hk]; rfl)
    obtain ⟨_, g2, g3⟩ := three_at h4
    subst h1
    have hio : fo + Int.toNat (k : Int) * 3 = fo + k * 3 := by simp
    simp only [Bool.true_and]
    by_cases h5 : g.kind = f.kind
    · rw [show (g.kind == f.kind) = true from beq_iff_eq.2 h5, Bool.not_true, Bool.false_or]
      have hne1 : (g.kind != f.kind) = false := by rw [h5]; simp
      have hne2 : (g.count != f.count) = !(g.count == f.count) := rfl
      generalize (!(g.count == f.count)) = r at *
      (refine LWP.seq <| LWP.region (by kernel_rfl) <| K.box rfl rfl rfl .plain <| kas rfl <| RunK.nil <| LWP.seq <| LWP.region (by kernel_rfl) <| K.loadXagg rfl hX (by kernel_rfl) hsz hcs .plain <| kfa rfl rfl ?_; refine kl1 rfl rfl rfl <| kca rfl rfl hq <| kmv rfl <| kex rfl rfl <| kex rfl rfl <| kas rfl <| kas rfl <| RunK.nil <| LWP.seq <| LWP.draws mixed (by kernel_rfl) <| kmv rfl <| kmv rfl <| K.fieldAddrX rfl rfl (.taken rfl rfl) ?_; refine K.loadX rfl hX rfl hf2 (.taken rfl rfl) ?_; refine gmv rfl rfl rfl <| K.indexX rfl rfl SliceT.h (by omega) hio (.taken rfl rfl) ?_; refine K.fieldAddrX rfl rfl (.taken rfl rfl) ?_; refine K.loadX rfl hFX rfl g2 (.taken rfl rfl) ?_; refine K.fieldAddr rfl rfl (.taken rfl rfl) ?_; refine K.loadOne rfl rfl rfl (.taken rfl rfl) ?_; refine K.neq rfl rfl hne1 (.taken rfl rfl) ?_; refine gmv rfl rfl rfl <| K.fieldAddrX rfl rfl (.taken rfl rfl) ?_; refine K.loadX rfl hX rfl hf2 (.taken rfl rfl) ?_; refine gmv rfl rfl rfl <| K.indexX rfl rfl SliceT.h (by omega) hio (.taken rfl rfl) ?_; refine K.fieldAddrX rfl rfl (.taken rfl rfl) ?_; refine K.loadX rfl hFX rfl g3 (.taken rfl rfl) ?_; refine K.fieldAddr rfl rfl (.taken rfl rfl) ?_; refine K.loadOne rfl rfl rfl (.taken rfl rfl) ?_; refine K.neq rfl rfl hne2 (.taken rfl rfl) ?_; refine K.pickF rfl rfl (.taken rfl rfl) ?_; refine kpt rfl rfl <| kas rfl <| RunK.nil <| And.intro (by kernel_rfl) ?_; refine LWP.ret ?_)
      exact ⟨[_], ⟨rfl, trivial⟩, rfl⟩
    · rw [show (g.kind == f.kind) = false from beq_eq_false_iff_ne.2 h5, Bool.not_false, Bool.true_or]
      have hne1 : (g.kind != f.kind) = true := bne_iff_ne.2 h5
      (refine LWP.seq <| LWP.region (by kernel_rfl) <| K.box rfl rfl rfl .plain <| kas rfl <| RunK.nil <| LWP.seq <| LWP.region (by kernel_rfl) <| K.loadXagg rfl hX (by kernel_rfl) hsz hcs .plain <| kfa rfl rfl ?_; refine kl1 rfl rfl rfl <| kca rfl rfl hq <| kmv rfl <| kex rfl rfl <| kex rfl rfl <| kas rfl <| kas rfl <| RunK.nil <| LWP.seq <| LWP.draws mixed (by kernel_rfl) <| kmv rfl <| kmv rfl <| K.fieldAddrX rfl rfl (.taken rfl rfl) ?_; refine K.loadX rfl hX rfl hf2 (.taken rfl rfl) ?_; refine gmv rfl rfl rfl <| K.indexX rfl rfl SliceT.h (by omega) hio (.taken rfl rfl) ?_; refine K.fieldAddrX rfl rfl (.taken rfl rfl) ?_; refine K.loadX rfl hFX rfl g2 (.taken rfl rfl) ?_; refine K.fieldAddr rfl rfl (.taken rfl rfl) ?_; refine K.loadOne rfl rfl rfl (.taken rfl rfl) ?_; refine K.neq rfl rfl hne1 (.taken rfl rfl) ?_; refine gmv rfl rfl rfl <| RunK.passed rfl rfl rfl <| RunK.passed rfl rfl rfl <| RunK.passed rfl rfl rfl <| RunK.passed rfl rfl rfl <| RunK.passed rfl rfl rfl <| RunK.passed rfl rfl rfl <| RunK.passed rfl rfl rfl <| RunK.passed rfl rfl rfl <| RunK.passed rfl rfl rfl <| K.pickT rfl rfl (.taken rfl rfl) ?_; refine kpt rfl rfl <| kas rfl <| RunK.nil <| And.intro (by kernel_rfl) ?_; refine LWP.ret ?_)
      exact ⟨[_], ⟨rfl, trivial⟩, rfl⟩
  · rw [show inF o.fs f = false by unfold inF; exact decide_eq_false hi, Bool.false_and]
    rw [decide_eq_false hi] at hq
    generalize (if (0 : Int) > fldIx o.fs f.nm then 0 else fldIx o.fs f.nm) = m at hq
    (refine LWP.seq <| LWP.region (by kernel_rfl) <| K.box rfl rfl rfl .plain <| kas rfl <| RunK.nil <| LWP.seq <| LWP.region (by kernel_rfl) <| K.loadXagg rfl hX (by kernel_rfl) hsz hcs .plain <| kfa rfl rfl ?_; refine kl1 rfl rfl rfl <| kca rfl rfl hq <| kmv rfl <| kex rfl rfl <| kex rfl rfl <| kas rfl <| kas rfl <| RunK.nil <| LWP.seq <| LWP.draws mixed (by kernel_rfl) <| kmv rfl <| kmv rfl <| RunK.passed rfl rfl rfl <| RunK.passed rfl rfl rfl ?_; refine RunK.passed rfl rfl rfl <| RunK.passed rfl rfl rfl <| RunK.passed rfl rfl rfl <| RunK.passed rfl rfl rfl <| RunK.passed rfl rfl rfl <| RunK.passed rfl rfl rfl <| RunK.passed rfl rfl rfl <| RunK.passed rfl rfl rfl <| RunK.passedU rfl rfl <| RunK.passedU rfl rfl <| RunK.passedU rfl rfl <| RunK.passedU rfl rfl <| RunK.passedU rfl rfl <| RunK.passedU rfl rfl ?_; refine RunK.passedU rfl rfl <| RunK.passedU rfl rfl <| RunK.passedU rfl rfl <| RunK.passed rfl rfl rfl <| kpf rfl rfl <| kas rfl <| RunK.nil <| And.intro (by kernel_rfl) ?_; refine LWP.ret ?_)
    exact ⟨[_], ⟨rfl, trivial⟩, rfl⟩
end
abbrev chSt (c : Cp) (fad : Option Addr) (fcap : Nat) (f : FuncId) (caps : List Value) (l : List (List UInt8)) (r : Bool) (i : Nat) (Y : Nat → Option Obj) : St := ⟨[(1, Lf f caps), (5, .sv (.one (.slc 500 0 l.length 1))), (10, Lx fad c.fs.length fcap), (11, Ln .i64 (c.fs.length : Nat)), (12, Ln .i64 (i : Nat))], [(500, some ⟨9, (Col.txV l).map .val, r⟩)], Y⟩
set_option maxHeartbeats 1600000 in
theorem dChosen (c : Cp) (fad : Option Addr) (fcap : Nat) (hF : FieldsIn X fad c.fs) (hl : c.fs.length ≤ 12) (f : FuncId) (caps : List Value) (p : Fl → Bool)
    (hp : ∀ x ∈ c.fs, PSpec Tryd.prog X f ([Fx x] ++ caps.map fun v => .sv (.one (.val v))) (Lb (p x))) :
    MSpec Tryd.prog X 50 [Cx c fad fcap, Lf f caps] [] (.sv (.one (.slc 1000001 0 ((c.fs.filter p).map Fl.nm).length 1))) [lnB 1000001 ((c.fs.filter p).map Fl.nm)] := by
  refine MSpec.intro Tryd.func50 rfl (by kernel_rfl) rfl rfl (by exact (by repeat' (first | refine all_cons_true ?_ ?_ | rfl | exact bytes_inUse | exact vals_inUse | exact mid_inUse rfl))) rfl rfl ?_
  intro C
  have hrl : ∀ l : List (List UInt8), ((Col.txV l).map CV.val).length = l.length * 1 := fun l => by rw [List.length_map, Col.txV_len, Nat.mul_one]
  have hnl : ∀ (l : List (List UInt8)) (x : List UInt8), l.length + 1 = (l ++ [x]).length := fun l x => by rw [List.length_append]; rfl
  have hnc : ∀ (l : List (List UInt8)) (x : List UInt8), (Col.txV l).map CV.val ++ [.val (.string ⟨x.toArray⟩)] = (Col.txV (l ++ [x])).map CV.val := fun l x => by unfold Col.txV; simp
  refine LWP.ends ?_
  (refine LWP.seq <| LWP.region (by kernel_rfl) <| K.box rfl rfl rfl .plain <| kas rfl <| RunK.nil <| LWP.seq <| LWP.region (by kernel_rfl) <| K.buildSlc (zs := []) (sz := 1) (e := 9) (by kernel_rfl) rfl rfl rfl rfl rfl rfl .plain <| kas rfl <| RunK.nil <| LWP.seq <| LWP.seq <| LWP.region (by kernel_rfl) <| kfa rfl rfl ?_; refine kl1 rfl rfl rfl <| K.lenX rfl SliceT.h rfl .plain ?_; refine kmv rfl <| RunK.nil <| LWP.block ?_)
  refine LWP.loop (fun m σ => ∃ (i : Nat) (r : Bool), i ≤ c.fs.length ∧ m = c.fs.length - i ∧ σ = chSt c fad fcap f caps (((c.fs.take i).filter p).map Fl.nm) r i X) c.fs.length
    ⟨chSt c fad fcap f caps [] false 0 X, Le.ofR [(500, 8)] (by exact ⟨rfl, rfl, rfl, rfl, rfl, trivial⟩) (by repeat' (first | exact trivial | refine And.intro ⟨_, rfl, ?_⟩ ?_ | refine And.intro ⟨_, rfl⟩ ?_ | rfl | exact Box.ren_bytes _ _ _ _ | exact Box.ren_vals _ _ _ _ | exact Box.ren_mid rfl)) (by exact rfl) (by exact rfl) (by repeat' (first | refine all_cons_true ?_ ?_ | rfl | exact bytes_inUse | exact vals_inUse | exact mid_inUse rfl)) (by exact rfl) (by exact rfl), 0, false, by omega, by omega, rfl⟩ ?_
  rintro m σ ⟨i, r, hi, rfl, rfl⟩
  by_cases hlt : i < c.fs.length
  · obtain ⟨x, hx⟩ : ∃ x, c.fs[i]? = some x := ⟨_, List.getElem?_eq_getElem hlt⟩
    obtain ⟨blk, off, arr, el, fr, had, hX, hsz, hcs⟩ := hF.at hx
    have hio : off + Int.toNat (i : Int) * 3 = off + i * 3 := by simp
    have hq := hp x (List.mem_of_getElem? hx)
    have hsn := filter_snoc hx p Fl.nm
    have hlm : (((c.fs.take i).filter p).map Fl.nm).length ≤ 12 := by
      have h1 := List.length_filter_le p (c.fs.take i)
      rw [List.length_take] at h1
      rw [List.length_map]; omega
    subst had
    generalize hl2 : ((c.fs.take i).filter p).map Fl.nm = l at *
    cases hpx : p x with
    | true =>
      rw [hpx] at hq
      rw [hpx, if_pos rfl] at hsn
      (refine LWP.seq <| LWP.region (by kernel_rfl) <| klt rfl rfl (decide_eq_true (by omega)) <| RunK.nil <| LWP.seq <| LWP.condT rfl ?_; refine LWP.skip ?_; refine LWP.seq <| LWP.block <| LWP.seq <| LWP.region (by kernel_rfl) <| K.indexX rfl rfl SliceT.h (by omega) hio .plain <| K.loadXagg rfl hX (by kernel_rfl) hsz hcs .plain <| K.alloc rfl .plain ?_; refine K.storeAll rfl rfl rfl rfl rfl rfl .plain ?_; refine RunK.nil <| LWP.seq <| LWP.region (by kernel_rfl) <| kmv rfl <| K.loadAll rfl rfl rfl .plain ?_; refine K.callF rfl rfl (by simp [LV.closed]; rfl) hq .plain ?_; refine RunK.nil <| LWP.condT rfl ?_; refine LWP.region (by kernel_rfl) <| kmv rfl <| kfa rfl rfl ?_; refine kl1 rfl rfl rfl <| K.buildSlc (zs := [Value.string ⟨#[]⟩]) (sz := 1) (e := 9) (cs' := [.val (.string ⟨x.nm.toArray⟩)]) (by kernel_rfl) rfl rfl rfl rfl rfl rfl .plain <| K.appendSlc (by_ := 16) (e2 := 9) (l2 := [.val (.string ⟨x.nm.toArray⟩)]) (nl := (l ++ [x.nm]).length) (nc := (Col.txV (l ++ [x.nm])).map .val) rfl rfl (hrl l) rfl rfl (Nat.le_refl _) rfl rfl (by kernel_rfl) (by kernel_rfl) (by omega) (by omega) rfl (hnl l _) (hnc l _) .plain <| kas rfl <| RunK.nil <| LWP.region (by kernel_rfl) <| kad rfl rfl (wrap_i64 (by omega)) <| kmv rfl <| RunK.nil ?_)
      exact ⟨_, chSt c (some ⟨blk, off, none⟩) fcap f caps (l ++ [x.nm]) true (i + 1) X, by omega, Le.ofR [(500, 23)] (by exact ⟨rfl, rfl, rfl, rfl, rfl, trivial⟩) (by repeat' (first | exact trivial | refine And.intro ⟨_, rfl, ?_⟩ ?_ | refine And.intro ⟨_, rfl⟩ ?_ | rfl | exact Box.ren_bytes _ _ _ _ | exact Box.ren_vals _ _ _ _ | exact Box.ren_mid rfl)) (by exact rfl) (by exact rfl) (by repeat' (first | refine all_cons_true ?_ ?_ | rfl | exact bytes_inUse | exact vals_inUse | exact mid_inUse rfl)) (by exact rfl) (by exact rfl), i + 1, true, by omega, rfl, by rw [hsn]⟩
    | false =>
      rw [hpx] at hq
      rw [hpx, if_neg (by decide), List.append_nil] at hsn
      (refine LWP.seq <| LWP.region (by kernel_rfl) <| klt rfl rfl (decide_eq_true (by omega)) <| RunK.nil <| LWP.seq <| LWP.condT rfl ?_; refine LWP.skip ?_; refine LWP.seq <| LWP.block <| LWP.seq <| LWP.region (by kernel_rfl) <| K.indexX rfl rfl SliceT.h (by omega) hio .plain <| K.loadXagg rfl hX (by kernel_rfl) hsz hcs .plain <| K.alloc rfl .plain ?_; refine K.storeAll rfl rfl rfl rfl rfl rfl .plain ?_; refine RunK.nil <| LWP.seq <| LWP.region (by kernel_rfl) <| kmv rfl <| K.loadAll rfl rfl rfl .plain ?_; refine K.callF rfl rfl (by simp [LV.closed]; rfl) hq .plain ?_; refine RunK.nil <| LWP.condF rfl ?_; refine LWP.skip ?_; refine LWP.region (by kernel_rfl) <| kad rfl rfl (wrap_i64 (by omega)) <| kmv rfl <| RunK.nil ?_)
      exact ⟨_, chSt c (some ⟨blk, off, none⟩) fcap f caps l r (i + 1) X, by omega, Le.of (by exact ⟨rfl, rfl, rfl, rfl, rfl, trivial⟩) (by exact ⟨rfl, trivial⟩) (by exact rfl) (by exact rfl) (by repeat' (first | refine all_cons_true ?_ ?_ | rfl | exact bytes_inUse | exact vals_inUse | exact mid_inUse rfl)), i + 1, r, by omega, rfl, by rw [hsn]⟩
  · have e : i = c.fs.length := by omega
    subst e
    rw [List.take_length]
    generalize (c.fs.filter p).map Fl.nm = l at *
    (refine LWP.seq <| LWP.region (by kernel_rfl) <| klt rfl rfl (decide_eq_false (by omega)) <| RunK.nil <| LWP.seq <| LWP.condF rfl ?_; refine LWP.exit <| LWP.seq <| LWP.region (by kernel_rfl) <| kmv rfl <| kas rfl <| RunK.nil <| LWP.ret ?_)
    refine Leads.le (σ' := ⟨[(4, .sv (.one (.slc 500 0 l.length 1)))], [(500, some ⟨9, (Col.txV l).map .val, r⟩)], X⟩) (Le.of (by exact ⟨rfl, trivial⟩) (by exact ⟨rfl, trivial⟩) (by exact rfl) (by exact rfl) (by repeat' (first | refine all_cons_true ?_ ?_ | rfl | exact bytes_inUse | exact vals_inUse | exact mid_inUse rfl))) ?_
    refine Leads.le Le.loose (Leads.done ?_)
    exact ⟨[(1000001, 500)], ⟨[_], ⟨rfl, trivial⟩, rfl⟩, (by repeat' (first | exact trivial | refine And.intro ⟨_, rfl, ?_⟩ ?_ | refine And.intro ⟨_, rfl⟩ ?_ | rfl | exact Box.ren_bytes _ _ _ _ | exact Box.ren_vals _ _ _ _ | exact Box.ren_mid rfl)), rfl, rfl⟩
end Go.Proofs.YtfcaebhofjjjnaaDoor
end
section
namespace Go.Lg.Fld
open Go Go.Lg
def zeC (k : Nat) : List Value := (List.replicate k [Value.int .i64 0, Value.int .i64 0, Value.string ⟨#[]⟩]).flatten
theorem zeC_succ (k : Nat) : zeC (k + 1) = [Value.int .i64 0, Value.int .i64 0, Value.string ⟨#[]⟩] ++ zeC k := by unfold zeC; rw [List.replicate_succ, List.flatten_cons]
theorem zeC_len (k : Nat) : (zeC k).length = k * 3 := by
  induction k with
  | zero => rfl
  | succ k ih => rw [zeC_succ, List.length_append, ih]; simp; omega
theorem chV_snoc (l : List Ch) (x : Ch) : chV (l ++ [x]) = chV l ++ x.vals := by rw [chV_app]; unfold chV; simp
end Go.Lg.Fld
namespace Go.Proofs.YtfcaebhofjjjnaaDoor
open Go Go.Lg Go.Lg.Fld
set_option maxRecDepth 100000
variable (X : Nat → Option Obj)
section
variable (c o : Cp) (fad oad : Option Addr) (fcap ocap : Nat) (hF : FieldsIn X fad c.fs) (hO : FieldsIn X oad o.fs) (hl : c.fs.length ≤ 12) (hol : o.fs.length ≤ 12)
include hF hO hl hol
theorem dAlone (l : List (List UInt8)) (he : (c.fs.filter (fun f => !inF o.fs f)).map Fl.nm = l) : MSpec Tryd.prog X 41 [Cx c fad fcap, Cx o oad ocap] [] (.sv (.one (.slc 1000001 0 l.length 1))) [lnB 1000001 l] := by
  refine MSpec.intro Tryd.func41 rfl (by kernel_rfl) rfl rfl (by exact (by repeat' (first | refine all_cons_true ?_ ?_ | rfl | exact bytes_inUse | exact vals_inUse | exact mid_inUse rfl))) rfl rfl ?_
  intro C
  (refine LWP.seq <| LWP.region (by kernel_rfl) <| K.box rfl rfl rfl .plain <| K.box rfl rfl rfl .plain <| kas rfl <| RunK.nil <| LWP.seq ?_)
  refine LWP.le (σ' := ⟨[(3, Lp 3), (2, Lp 2)], [(3, some ⟨46, [Value.int .i64 o.id, .string ⟨o.nm.toArray⟩, .slice oad o.fs.length ocap].map .val, false⟩), cpB 2 c fad fcap], X⟩) (Le.of (by exact ⟨rfl, rfl, trivial⟩) (by exact ⟨rfl, rfl, trivial⟩) (by exact rfl) (by exact rfl) (by repeat' (first | refine all_cons_true ?_ ?_ | rfl | exact bytes_inUse | exact vals_inUse | exact mid_inUse rfl))) ?_
  refine LWP.freezePtr (by rfl) (by rfl) (by rfl) fun b arr0 fr0 hn _ h0 => ?_
  have hq := dChosen _ c fad fcap (hF.mono (withBlock_old (o := .cells arr0 46 fr0) hn)) hl 51 [.pointer (some ⟨b, 0, none⟩)] (fun f => !inF o.fs f) (fun x _ => alone1_spec _ x o oad ocap (hO.mono (withBlock_old (o := .cells arr0 46 fr0) hn)) hol (withBlock_at X b (.cells arr0 46 fr0)) h0)
  rw [he] at hq
  (refine LWP.region (by kernel_rfl) <| K.loadAll rfl rfl rfl .plain ?_; refine K.makeFunc rfl rfl .plain ?_; refine K.callMp [(1000001, 20)] (.sv (.one (.slc 20 0 l.length 1))) [lnB 20 l] (hq) rfl rfl (by exact trivial) rfl rfl rfl rfl rfl (by exact (.box rfl (Box.ren_vals _ _ _ _) .nil)) .plain <| kas rfl <| RunK.nil <| LWP.ret ?_)
  exact ⟨[(1000001, 20)], ⟨[_], ⟨rfl, trivial⟩, rfl⟩, (by repeat' (first | exact trivial | refine And.intro ⟨_, rfl, ?_⟩ ?_ | refine And.intro ⟨_, rfl⟩ ?_ | rfl | exact Box.ren_bytes _ _ _ _ | exact Box.ren_vals _ _ _ _ | exact Box.ren_mid rfl)), rfl, rfl⟩
theorem dShared (l : List (List UInt8)) (he : (c.fs.filter (inF o.fs)).map Fl.nm = l) : MSpec Tryd.prog X 44 [Cx c fad fcap, Cx o oad ocap] [] (.sv (.one (.slc 1000001 0 l.length 1))) [lnB 1000001 l] := by
  refine MSpec.intro Tryd.func44 rfl (by kernel_rfl) rfl rfl (by exact (by repeat' (first | refine all_cons_true ?_ ?_ | rfl | exact bytes_inUse | exact vals_inUse | exact mid_inUse rfl))) rfl rfl ?_
  intro C
  (refine LWP.seq <| LWP.region (by kernel_rfl) <| K.box rfl rfl rfl .plain <| K.box rfl rfl rfl .plain <| kas rfl <| RunK.nil <| LWP.seq ?_)
  refine LWP.le (σ' := ⟨[(3, Lp 3), (2, Lp 2)], [(3, some ⟨46, [Value.int .i64 o.id, .string ⟨o.nm.toArray⟩, .slice oad o.fs.length ocap].map .val, false⟩), cpB 2 c fad fcap], X⟩) (Le.of (by exact ⟨rfl, rfl, trivial⟩) (by exact ⟨rfl, rfl, trivial⟩) (by exact rfl) (by exact rfl) (by repeat' (first | refine all_cons_true ?_ ?_ | rfl | exact bytes_inUse | exact vals_inUse | exact mid_inUse rfl))) ?_
  refine LWP.freezePtr (by rfl) (by rfl) (by rfl) fun b arr0 fr0 hn _ h0 => ?_
  have hq := dChosen _ c fad fcap (hF.mono (withBlock_old (o := .cells arr0 46 fr0) hn)) hl 55 [.pointer (some ⟨b, 0, none⟩)] (inF o.fs) (fun x _ => shared1_spec _ x o oad ocap (hO.mono (withBlock_old (o := .cells arr0 46 fr0) hn)) hol (withBlock_at X b (.cells arr0 46 fr0)) h0)
  rw [he] at hq
  (refine LWP.region (by kernel_rfl) <| K.loadAll rfl rfl rfl .plain ?_; refine K.makeFunc rfl rfl .plain ?_; refine K.callMp [(1000001, 20)] (.sv (.one (.slc 20 0 l.length 1))) [lnB 20 l] (hq) rfl rfl (by exact trivial) rfl rfl rfl rfl rfl (by exact (.box rfl (Box.ren_vals _ _ _ _) .nil)) .plain <| kas rfl <| RunK.nil <| LWP.ret ?_)
  exact ⟨[(1000001, 20)], ⟨[_], ⟨rfl, trivial⟩, rfl⟩, (by repeat' (first | exact trivial | refine And.intro ⟨_, rfl, ?_⟩ ?_ | refine And.intro ⟨_, rfl⟩ ?_ | rfl | exact Box.ren_bytes _ _ _ _ | exact Box.ren_vals _ _ _ _ | exact Box.ren_mid rfl)), rfl, rfl⟩
theorem dRetyped (l : List (List UInt8)) (he : (c.fs.filter (retF o.fs)).map Fl.nm = l) : MSpec Tryd.prog X 42 [Cx c fad fcap, Cx o oad ocap] [] (.sv (.one (.slc 1000001 0 l.length 1))) [lnB 1000001 l] := by
  refine MSpec.intro Tryd.func42 rfl (by kernel_rfl) rfl rfl (by exact (by repeat' (first | refine all_cons_true ?_ ?_ | rfl | exact bytes_inUse | exact vals_inUse | exact mid_inUse rfl))) rfl rfl ?_
  intro C
  (refine LWP.seq <| LWP.region (by kernel_rfl) <| K.box rfl rfl rfl .plain <| K.box rfl rfl rfl .plain <| kas rfl <| RunK.nil <| LWP.seq ?_)
  refine LWP.le (σ' := ⟨[(3, Lp 3), (2, Lp 2)], [(3, some ⟨46, [Value.int .i64 o.id, .string ⟨o.nm.toArray⟩, .slice oad o.fs.length ocap].map .val, false⟩), cpB 2 c fad fcap], X⟩) (Le.of (by exact ⟨rfl, rfl, trivial⟩) (by exact ⟨rfl, rfl, trivial⟩) (by exact rfl) (by exact rfl) (by repeat' (first | refine all_cons_true ?_ ?_ | rfl | exact bytes_inUse | exact vals_inUse | exact mid_inUse rfl))) ?_
  refine LWP.freezePtr (by rfl) (by rfl) (by rfl) fun b arr0 fr0 hn _ h0 => ?_
  have hq := dChosen _ c fad fcap (hF.mono (withBlock_old (o := .cells arr0 46 fr0) hn)) hl 53 [.pointer (some ⟨b, 0, none⟩)] (retF o.fs) (fun x _ => retyped1_spec _ x o oad ocap (hO.mono (withBlock_old (o := .cells arr0 46 fr0) hn)) hol (withBlock_at X b (.cells arr0 46 fr0)) h0)
  rw [he] at hq
  (refine LWP.region (by kernel_rfl) <| K.loadAll rfl rfl rfl .plain ?_; refine K.makeFunc rfl rfl .plain ?_; refine K.callMp [(1000001, 20)] (.sv (.one (.slc 20 0 l.length 1))) [lnB 20 l] (hq) rfl rfl (by exact trivial) rfl rfl rfl rfl rfl (by exact (.box rfl (Box.ren_vals _ _ _ _) .nil)) .plain <| kas rfl <| RunK.nil <| LWP.ret ?_)
  exact ⟨[(1000001, 20)], ⟨[_], ⟨rfl, trivial⟩, rfl⟩, (by repeat' (first | exact trivial | refine And.intro ⟨_, rfl, ?_⟩ ?_ | refine And.intro ⟨_, rfl⟩ ?_ | rfl | exact Box.ren_bytes _ _ _ _ | exact Box.ren_vals _ _ _ _ | exact Box.ren_mid rfl)), rfl, rfl⟩
end
abbrev dgB (k : Nat) (l : List Ch) (r : Bool) : Nat × Option Box := (k, some ⟨40, (chV l).map .val, r⟩)
abbrev ofSt (k id : Int) (ns : List (List UInt8)) (i : Nat) (Y : Nat → Option Obj) : St := ⟨[(0, Ln .i64 k), (1, Ln .i64 id), (7, .sv (.one (.slc 12 0 ns.length 3))), (13, .sv (.one (.slc 1000000 0 ns.length 1))), (14, Ln .i64 (ns.length : Nat)), (15, Ln .i64 (i : Nat))], [(12, some ⟨40, (chV ((ns.take i).map fun n => ⟨k, id, n⟩) ++ zeC (ns.length - i)).map .val, false⟩), lnB 1000000 ns], Y⟩
set_option maxHeartbeats 1600000 in
theorem dOfFields (k id : Int) (ns : List (List UInt8)) (hl : ns.length ≤ 12) :
    MSpec Tryd.prog X 40 [Ln .i64 k, Ln .i64 id, .sv (.one (.slc 1000000 0 ns.length 1))] [lnB 1000000 ns] (.sv (.one (.slc 1000001 0 ns.length 3))) [lnB 1000000 ns, dgB 1000001 (ns.map fun n => ⟨k, id, n⟩) false] := by
  refine MSpec.intro Tryd.func40 rfl (by kernel_rfl) rfl (by exact (by repeat' (first | refine all_cons_true ?_ ?_ | rfl | exact bytes_inUse | exact vals_inUse | exact mid_inUse rfl))) (by exact (by repeat' (first | refine all_cons_true ?_ ?_ | rfl | exact bytes_inUse | exact vals_inUse | exact mid_inUse rfl))) rfl rfl ?_
  intro C
  have hmk : slcBuild Tryd.prog 28 ns.length = some (zeC ns.length, 3, 40) := slcBuild_many (z := #[.int .i64 0, .int .i64 0, .string ⟨#[]⟩]) (by kernel_rfl) (by kernel_rfl) rfl (by omega)
  (refine LWP.seq <| LWP.region (by kernel_rfl) <| kas rfl <| RunK.nil <| LWP.seq <| LWP.region (by kernel_rfl) <| kmv rfl <| K.lenSlc rfl SliceT.h rfl .plain ?_; refine K.makeSlc (m := ns.length) (bytes := 32) rfl rfl hmk (by kernel_rfl) (by omega) rfl rfl .plain <| kas rfl <| RunK.nil <| LWP.seq <| LWP.seq <| LWP.region (by kernel_rfl) <| kmv rfl <| K.lenSlc rfl SliceT.h rfl .plain ?_; refine kmv rfl <| RunK.nil <| LWP.block ?_)
  refine LWP.loop (fun m σ => ∃ i : Nat, i ≤ ns.length ∧ m = ns.length - i ∧ σ = ofSt k id ns i X) ns.length
    ⟨ofSt k id ns 0 X, Le.of (by exact ⟨rfl, rfl, rfl, rfl, rfl, rfl, trivial⟩) (by exact ⟨rfl, rfl, trivial⟩) (by exact rfl) (by exact rfl) (by repeat' (first | refine all_cons_true ?_ ?_ | rfl | exact bytes_inUse | exact vals_inUse | exact mid_inUse rfl)), 0, by omega, by omega, rfl⟩ ?_
  rintro m σ ⟨i, hi, rfl, rfl⟩
  by_cases hlt : i < ns.length
  · obtain ⟨x, hx⟩ : ∃ x, ns[i]? = some x := ⟨_, List.getElem?_eq_getElem hlt⟩
    have hix : 0 + Int.toNat (i : Int) * 1 = i := by rw [Int.toNat_natCast]; omega
    have hix3 : 0 + Int.toNat (i : Int) * 3 = i * 3 := by rw [Int.toNat_natCast]; omega
    have hpl : (chV ((ns.take i).map fun n => (⟨k, id, n⟩ : Ch))).length = i * 3 := by rw [chV_len, List.length_map, List.length_take]; omega
    have hroom : i * 3 + 3 ≤ ((chV ((ns.take i).map fun n => (⟨k, id, n⟩ : Ch)) ++ zeC (ns.length - i)).map CV.val).length := by rw [List.length_map, List.length_append, hpl, zeC_len]; omega
    have hspl : splice ((chV ((ns.take i).map fun n => (⟨k, id, n⟩ : Ch)) ++ zeC (ns.length - i)).map CV.val) (i * 3) [.val (.int .i64 k), .val (.int .i64 id), .val (.string ⟨x.toArray⟩)] = (chV ((ns.take (i + 1)).map fun n => (⟨k, id, n⟩ : Ch)) ++ zeC (ns.length - (i + 1))).map CV.val := by
      rw [take_snoc hx, show ((ns.take i ++ [x]).map fun n => (⟨k, id, n⟩ : Ch)) = (ns.take i).map (fun n => (⟨k, id, n⟩ : Ch)) ++ [⟨k, id, x⟩] from List.map_append, chV_snoc, show ns.length - i = (ns.length - (i + 1)) + 1 by omega, zeC_succ]
      unfold splice
      simp only [List.map_append, List.append_assoc]
      have hml : ((chV ((ns.take i).map fun n => (⟨k, id, n⟩ : Ch))).map CV.val).length = i * 3 := by rw [List.length_map, hpl]
      generalize (chV ((ns.take i).map fun n => (⟨k, id, n⟩ : Ch))).map CV.val = R at *
      rw [← hml, List.take_left, List.drop_length_add_append]
      simp [Ch.vals]
    (refine LWP.seq <| LWP.region (by kernel_rfl) <| klt rfl rfl (decide_eq_true (by omega)) <| RunK.nil <| LWP.seq <| LWP.condT rfl ?_; refine LWP.skip ?_; refine LWP.seq <| LWP.block <| LWP.seq <| LWP.region (by kernel_rfl) <| kmv rfl <| K.indexSlc rfl rfl (by omega) hix .plain ?_; refine kl1 rfl rfl (Col.txC_at hx) <| kas rfl <| kas rfl <| RunK.nil <| LWP.region (by kernel_rfl) <| kmv rfl <| kmv rfl <| kmv rfl <| kmv rfl <| kmv rfl <| K.build rfl rfl (by exact rfl) (by exact nl3 rfl rfl rfl rfl) .plain ?_; refine K.indexSlc rfl rfl (by omega) hix3 .plain ?_; refine K.store rfl rfl rfl rfl (by kernel_rfl) hroom hspl .plain <| RunK.nil <| LWP.region (by kernel_rfl) <| kad rfl rfl (wrap_i64 (by omega)) <| kmv rfl <| RunK.nil ?_)
    exact ⟨_, ofSt k id ns (i + 1) X, by omega, Le.of (by exact ⟨rfl, rfl, rfl, rfl, rfl, rfl, trivial⟩) (by exact ⟨rfl, rfl, trivial⟩) (by exact rfl) (by exact rfl) (by repeat' (first | refine all_cons_true ?_ ?_ | rfl | exact bytes_inUse | exact vals_inUse | exact mid_inUse rfl)), i + 1, by omega, rfl, rfl⟩
  · have e : i = ns.length := by omega
    subst e
    unfold ofSt
    rw [List.take_length, Nat.sub_self, show zeC 0 = [] from rfl, List.append_nil]
    (refine LWP.seq <| LWP.region (by kernel_rfl) <| klt rfl rfl (decide_eq_false (by omega)) <| RunK.nil <| LWP.seq <| LWP.condF rfl ?_; refine LWP.exit <| LWP.seq <| LWP.region (by kernel_rfl) <| kmv rfl <| kas rfl <| RunK.nil <| LWP.ret ?_)
    exact ⟨[(1000001, 12)], ⟨[_], ⟨rfl, trivial⟩, rfl⟩, (by repeat' (first | exact trivial | refine And.intro ⟨_, rfl, ?_⟩ ?_ | refine And.intro ⟨_, rfl⟩ ?_ | rfl | exact Box.ren_bytes _ _ _ _ | exact Box.ren_vals _ _ _ _ | exact Box.ren_mid rfl)), rfl, rfl⟩
set_option maxHeartbeats 1600000 in
theorem tEq (a b : List (List UInt8)) (hbig : a.length ≤ 12) (q : Bool) (hq : decide (a = b) = q) :
    MSpec Tryd.prog X 43 [.sv (.one (.slc 1000000 0 a.length 1)), .sv (.one (.slc 1000001 0 b.length 1))] [lnB 1000000 a, lnB 1000001 b] (Lb q) [lnB 1000000 a, lnB 1000001 b] := by
  subst hq
  refine MSpec.intro Tryd.func43 rfl (by kernel_rfl) rfl rfl (by exact (by repeat' (first | refine all_cons_true ?_ ?_ | rfl | exact bytes_inUse | exact vals_inUse | exact mid_inUse rfl))) rfl rfl ?_
  intro C
  by_cases hl : a.length = b.length
  · (refine LWP.seq <| LWP.region (by kernel_rfl) <| kas rfl <| RunK.nil <| LWP.seq <| LWP.seq <| LWP.region (by kernel_rfl) <| kmv rfl <| K.lenSlc rfl SliceT.h rfl .plain ?_; refine kmv rfl <| K.lenSlc rfl SliceT.h rfl .plain ?_; refine kne rfl rfl (r := false) (by rw [hl]; simp) <| RunK.nil <| LWP.condF rfl ?_; refine LWP.skip ?_; refine LWP.seq <| LWP.seq <| LWP.region (by kernel_rfl) <| kmv rfl <| K.lenSlc rfl SliceT.h rfl .plain ?_; refine kmv rfl <| RunK.nil <| LWP.block ?_)
    refine LWP.loop (fun m σ => ∃ i : Nat, i ≤ a.length ∧ m = a.length - i ∧ a.take i = b.take i ∧ σ = ⟨[(0, .sv (.one (.slc 1000000 0 a.length 1))), (1, .sv (.one (.slc 1000001 0 b.length 1))), (12, Ln .i64 (a.length : Nat)), (13, Ln .i64 (i : Nat))], [lnB 1000000 a, lnB 1000001 b], X⟩) a.length
      ⟨_, Le.of (by exact ⟨rfl, rfl, rfl, rfl, trivial⟩) (by exact ⟨rfl, rfl, trivial⟩) (by exact rfl) (by exact rfl) (by repeat' (first | refine all_cons_true ?_ ?_ | rfl | exact bytes_inUse | exact vals_inUse | exact mid_inUse rfl)), 0, by omega, rfl, rfl, rfl⟩ ?_
    rintro m σ ⟨i, hi, rfl, hpre, rfl⟩
    by_cases hlt : i < a.length
    · obtain ⟨f, hf⟩ : ∃ v, a[i]? = some v := ⟨_, List.getElem?_eq_getElem hlt⟩
      obtain ⟨f', hf'⟩ : ∃ v, b[i]? = some v := ⟨_, List.getElem?_eq_getElem (by omega)⟩
      have hix : 0 + Int.toNat (i : Int) * 1 = i := by rw [Int.toNat_natCast]; omega
      by_cases hq : f = f'
      · (refine LWP.seq <| LWP.region (by kernel_rfl) <| klt rfl rfl (decide_eq_true (by omega)) <| RunK.nil <| LWP.seq <| LWP.condT rfl ?_; refine LWP.skip ?_; refine LWP.seq <| LWP.block <| LWP.seq <| LWP.region (by kernel_rfl) <| kmv rfl <| kas rfl <| RunK.nil <| LWP.seq <| LWP.draws mixed (by kernel_rfl) <| kmv rfl <| kmv rfl <| K.indexSlc rfl rfl (by omega) hix .plain ?_; refine kl1 rfl rfl (Col.txC_at hf) <| kmv rfl <| kmv rfl <| K.indexSlc rfl rfl (by omega) hix .plain ?_; refine kl1 rfl rfl (Col.txC_at hf') <| K.strNe rfl rfl (strs_ne (r := false) (by rw [hq]; simp)) .plain <| RunK.nil <| And.intro (by kernel_rfl) ?_; refine LWP.condF rfl ?_; refine LWP.skip ?_; refine LWP.region (by kernel_rfl) <| kad rfl rfl (wrap_i64 (by omega)) <| kmv rfl <| RunK.nil ?_)
        exact ⟨_, _, by omega, Le.of (by exact ⟨rfl, rfl, rfl, rfl, trivial⟩) (by exact ⟨rfl, rfl, trivial⟩) (by exact rfl) (by exact rfl) (by repeat' (first | refine all_cons_true ?_ ?_ | rfl | exact bytes_inUse | exact vals_inUse | exact mid_inUse rfl)), i + 1, by omega, rfl, by rw [take_snoc hf, take_snoc hf', hpre, hq], rfl⟩
      · rw [decide_eq_false (show ¬a = b from fun e => hq (by rw [e, hf'] at hf; exact (Option.some.inj hf).symm))]
        (refine LWP.seq <| LWP.region (by kernel_rfl) <| klt rfl rfl (decide_eq_true (by omega)) <| RunK.nil <| LWP.seq <| LWP.condT rfl ?_; refine LWP.skip ?_; refine LWP.seq <| LWP.block <| LWP.seq <| LWP.region (by kernel_rfl) <| kmv rfl <| kas rfl <| RunK.nil <| LWP.seq <| LWP.draws mixed (by kernel_rfl) <| kmv rfl <| kmv rfl <| K.indexSlc rfl rfl (by omega) hix .plain ?_; refine kl1 rfl rfl (Col.txC_at hf) <| kmv rfl <| kmv rfl <| K.indexSlc rfl rfl (by omega) hix .plain ?_; refine kl1 rfl rfl (Col.txC_at hf') <| K.strNe rfl rfl (strs_ne (r := true) (by simp [hq])) .plain <| RunK.nil <| And.intro (by kernel_rfl) ?_; refine LWP.condT rfl ?_; refine LWP.seq <| LWP.region (by kernel_rfl) <| kas rfl <| RunK.nil <| LWP.ret ?_)
        exact ⟨[], ⟨[_], ⟨rfl, trivial⟩, rfl⟩, (by repeat' (first | exact trivial | refine And.intro ⟨_, rfl, ?_⟩ ?_ | refine And.intro ⟨_, rfl⟩ ?_ | rfl | exact Box.ren_bytes _ _ _ _ | exact Box.ren_vals _ _ _ _ | exact Box.ren_mid rfl)), rfl, rfl⟩
    · have e : i = a.length := by omega
      subst e
      rw [List.take_length, List.take_of_length_le (by omega)] at hpre
      rw [decide_eq_true hpre]
      (refine LWP.seq <| LWP.region (by kernel_rfl) <| klt rfl rfl (decide_eq_false (by omega)) <| RunK.nil <| LWP.seq <| LWP.condF rfl ?_; refine LWP.exit <| LWP.seq <| LWP.region (by kernel_rfl) <| kas rfl <| RunK.nil <| LWP.ret ?_)
      exact ⟨[], ⟨[_], ⟨rfl, trivial⟩, rfl⟩, (by repeat' (first | exact trivial | refine And.intro ⟨_, rfl, ?_⟩ ?_ | refine And.intro ⟨_, rfl⟩ ?_ | rfl | exact Box.ren_bytes _ _ _ _ | exact Box.ren_vals _ _ _ _ | exact Box.ren_mid rfl)), rfl, rfl⟩
  · rw [decide_eq_false (show ¬a = b from fun e => hl (by rw [e]))]
    (refine LWP.seq <| LWP.region (by kernel_rfl) <| kas rfl <| RunK.nil <| LWP.seq <| LWP.seq <| LWP.region (by kernel_rfl) <| kmv rfl <| K.lenSlc rfl SliceT.h rfl .plain ?_; refine kmv rfl <| K.lenSlc rfl SliceT.h rfl .plain ?_; refine kne rfl rfl (r := true) (by rw [bne_iff_ne]; omega) <| RunK.nil <| LWP.condT rfl ?_; refine LWP.seq <| LWP.region (by kernel_rfl) <| kas rfl <| RunK.nil <| LWP.ret ?_)
    exact ⟨[], ⟨[_], ⟨rfl, trivial⟩, rfl⟩, (by repeat' (first | exact trivial | refine And.intro ⟨_, rfl, ?_⟩ ?_ | refine And.intro ⟨_, rfl⟩ ?_ | rfl | exact Box.ren_bytes _ _ _ _ | exact Box.ren_vals _ _ _ _ | exact Box.ren_mid rfl)), rfl, rfl⟩
end Go.Proofs.YtfcaebhofjjjnaaDoor
end
section
namespace Go.Lg.Fld
open Go Go.Lg
theorem chV_solid (l : List Ch) : ((chV l).map CV.val).all CV.solid = true := vals_solid (chV_one l)
theorem row4 (a b : Cp) : ((a.fs.filter fun f => !inF b.fs f).map Fl.nm).map (fun n => (⟨4, a.id, n⟩ : Ch)) = rowD a b 4 := by
  simp only [rowD, List.map_map]
  rw [show (fun f => !inF b.fs f) = drpF b.fs from funext fun f => drpF_in.symm]
  rfl
theorem row5 (a b : Cp) : ((b.fs.filter fun f => !inF a.fs f).map Fl.nm).map (fun n => (⟨5, a.id, n⟩ : Ch)) = rowD a b 5 := by
  simp only [rowD, List.map_map]
  rw [show (fun f => !inF a.fs f) = drpF a.fs from funext fun f => drpF_in.symm]
  rfl
theorem row6 (a b : Cp) : ((a.fs.filter (retF b.fs)).map Fl.nm).map (fun n => (⟨6, a.id, n⟩ : Ch)) = rowD a b 6 := by
  simp only [rowD, List.map_map]
  rfl
theorem names_len {fs : List Fl} (p : Fl → Bool) (h : fs.length ≤ 12) : ((fs.filter p).map Fl.nm).length ≤ 12 := by
  rw [List.length_map]; exact Nat.le_trans (List.length_filter_le _ _) h
end Go.Lg.Fld
namespace Go.Proofs.YtfcaebhofjjjnaaDoor
open Go Go.Lg Go.Lg.Fld
set_option maxRecDepth 100000
variable (X : Nat → Option Obj)
abbrev ocSt (a b : Cp) (ad bd : Option Addr) (ac bc_ : Nat) (l : List Ch) (r : Bool) (Y : Nat → Option Obj) : St := ⟨[(2, Lp 2), (3, Lp 3), (5, .sv (.one (.slc 500 0 l.length 3)))], [dgB 500 l r, cpB 2 a ad ac, cpB 3 b bd bc_], Y⟩
set_option maxHeartbeats 3200000 in
theorem dOfComp (a b : Cp) (ad bd : Option Addr) (ac bc_ : Nat) (hA : FieldsIn X ad a.fs) (hB : FieldsIn X bd b.fs) (hla : a.fs.length ≤ 12) (hlb : b.fs.length ≤ 12) (hpa : Apart a.fs) (hpb : Apart b.fs) (L : List Ch) (hL : compD a b = L) :
    MSpec Tryd.prog X 32 [Cx a ad ac, Cx b bd bc_] [] (.sv (.one (.slc 1000001 0 L.length 3))) [dgB 1000001 L true] := by
  refine MSpec.intro Tryd.func32 rfl (by kernel_rfl) rfl rfl (by exact (by repeat' (first | refine all_cons_true ?_ ?_ | rfl | exact bytes_inUse | exact vals_inUse | exact mid_inUse rfl))) rfl rfl ?_
  intro C
  have hrl : ∀ l : List Ch, ((chV l).map CV.val).length = l.length * 3 := fun l => by rw [List.length_map, chV_len]
  have hnl : ∀ l m : List Ch, l.length + m.length = (l ++ m).length := fun l m => (List.length_append).symm
  have hnc : ∀ l m : List Ch, (chV l).map CV.val ++ (chV m).map CV.val = (chV (l ++ m)).map CV.val := fun l m => by rw [chV_app, List.map_append]
  have htk : ∀ m : List Ch, ((chV m).map CV.val).take (m.length * 3) = (chV m).map CV.val := fun m => List.take_of_length_le (by rw [hrl]; exact Nat.le_refl _)
  have hle : ∀ m : List Ch, m.length * 3 ≤ ((chV m).map CV.val).length := fun m => by rw [hrl]; exact Nat.le_refl _
  have hnc1 : ∀ (l : List Ch) (k c : Int), (chV l).map CV.val ++ [.val (.int .i64 k), .val (.int .i64 c), .val (.string ⟨#[]⟩)] = (chV (l ++ [Ch.mk k c []])).map CV.val := fun l k c => by rw [chV_app, List.map_append]; rfl
  have hnl1 : ∀ (l : List Ch) (x : Ch), l.length + 1 = (l ++ [x]).length := fun l x => by rw [List.length_append]; rfl
  have e4 := row4 a b
  have e5 := row5 a b
  have e6 := row6 a b
  have e3 : rowD a b 3 = if a.nm = b.nm then [] else [⟨3, a.id, []⟩] := rfl
  have e7 : rowD a b 7 = if movB a.fs b.fs = true then [⟨7, a.id, []⟩] else [] := rfl
  rw [movB_sh hpa hpb] at e7
  unfold compD at hL
  have n3 := row_len hla hlb 3
  have n4 := row_len hla hlb 4
  have n5 := row_len hla hlb 5
  have n6 := row_len hla hlb 6
  have p4 := fun A => dAlone X a b ad bd ac bc_ hA hB hla hlb A
  have p5 := fun A => dAlone X b a bd ad bc_ ac hB hA hlb hla A
  have p6 := fun A => dRetyped X a b ad bd ac bc_ hA hB hla hlb A
  have s1 := dShared X a b ad bd ac bc_ hA hB hla hlb _ rfl
  have s2 := dShared X b a bd ad bc_ ac hB hA hlb hla _ rfl
  have m4 := names_len (fun f => !inF b.fs f) hla
  have m5 := names_len (fun f => !inF a.fs f) hlb
  have m6 := names_len (retF b.fs) hla
  have t1 := names_len (inF b.fs) hla
  replace p4 := p4 _ rfl
  replace p5 := p5 _ rfl
  replace p6 := p6 _ rfl
  rw [show (a.fs.filter (inF b.fs)).map Fl.nm = shN a.fs b.fs from rfl] at s1 t1
  rw [show (b.fs.filter (inF a.fs)).map Fl.nm = shN b.fs a.fs from rfl] at s2
  generalize (a.fs.filter fun f => !inF b.fs f).map Fl.nm = A4 at *
  generalize (b.fs.filter fun f => !inF a.fs f).map Fl.nm = A5 at *
  generalize (a.fs.filter (retF b.fs)).map Fl.nm = A6 at *
  have f4 := dOfFields X 4 a.id A4 m4
  have f5 := dOfFields X 5 a.id A5 m5
  have f6 := dOfFields X 6 a.id A6 m6
  have g4 : A4.length = (rowD a b 4).length := by rw [← e4, List.length_map]
  have g5 : A5.length = (rowD a b 5).length := by rw [← e5, List.length_map]
  have g6 : A6.length = (rowD a b 6).length := by rw [← e6, List.length_map]
  rw [e4] at f4
  rw [e5] at f5
  rw [e6] at f6
  generalize rowD a b 4 = R4 at *
  generalize rowD a b 5 = R5 at *
  generalize rowD a b 6 = R6 at *
  have q7 := fun q hq => tEq X (shN a.fs b.fs) (shN b.fs a.fs) t1 q hq
  generalize shN a.fs b.fs = U at *
  generalize shN b.fs a.fs = V at *
  refine LWP.ends ?_
  (refine LWP.seq <| LWP.region (by kernel_rfl) <| K.box rfl rfl rfl .plain <| K.box rfl rfl rfl .plain <| kas rfl <| RunK.nil <| LWP.seq <| LWP.region (by kernel_rfl) <| K.buildSlc (zs := []) (sz := 3) (e := 40) (by kernel_rfl) rfl rfl rfl rfl rfl rfl .plain <| kas rfl <| RunK.nil <| LWP.seq <| LWP.seq ?_)
  repeat refine LWP.seq ?_
  refine LWP.cut (fun σ => ∃ r, σ = ocSt a b ad bd ac bc_ (rowD a b 3) r X) ?_ ?_
  · rw [e3]
    by_cases hn : a.nm = b.nm
    · have hne : (!(a.nm == b.nm)) = false := by rw [hn]; simp
      rw [if_pos hn]
      (refine LWP.region (by kernel_rfl) <| kfa rfl rfl ?_; refine kl1 rfl rfl rfl <| kfa rfl rfl ?_; refine kl1 rfl rfl rfl <| K.strNe rfl rfl (strs_ne (r := false) hne) .plain <| RunK.nil <| LWP.condF rfl ?_; refine LWP.skip ?_)
      exact ⟨ocSt a b ad bd ac bc_ [] false X, Le.ofR [(500, 6)] (by exact ⟨rfl, rfl, rfl, trivial⟩) (by repeat' (first | exact trivial | refine And.intro ⟨_, rfl, ?_⟩ ?_ | refine And.intro ⟨_, rfl⟩ ?_ | rfl | exact Box.ren_bytes _ _ _ _ | exact Box.ren_vals _ _ _ _ | exact Box.ren_mid rfl)) (by exact rfl) (by exact rfl) (by repeat' (first | refine all_cons_true ?_ ?_ | rfl | exact bytes_inUse | exact vals_inUse | exact mid_inUse rfl)) (by exact rfl) (by exact rfl), false, rfl⟩
    · have hne : (!(a.nm == b.nm)) = true := by simp [hn]
      rw [if_neg hn]
      (refine LWP.region (by kernel_rfl) <| kfa rfl rfl ?_; refine kl1 rfl rfl rfl <| kfa rfl rfl ?_; refine kl1 rfl rfl rfl <| K.strNe rfl rfl (strs_ne (r := true) hne) .plain <| RunK.nil <| LWP.condT rfl ?_; refine LWP.region (by kernel_rfl) <| kmv rfl <| kfa rfl rfl ?_; refine kl1 rfl rfl rfl <| K.build rfl rfl (by exact rfl) (by exact nl3 rfl rfl rfl rfl) .plain ?_; refine K.buildSlc (zs := [.int .i64 0, .int .i64 0, .string ⟨#[]⟩]) (sz := 3) (e := 40) (cs' := [.val (.int .i64 3), .val (.int .i64 a.id), .val (.string ⟨#[]⟩)]) (by kernel_rfl) rfl rfl rfl rfl rfl rfl .plain <| K.appendSlc (by_ := 32) (e2 := 40) (l2 := [.val (.int .i64 3), .val (.int .i64 a.id), .val (.string ⟨#[]⟩)]) (nl := (([] : List Ch) ++ [Ch.mk 3 a.id []]).length) (nc := (chV (([] : List Ch) ++ [Ch.mk 3 a.id []])).map .val) rfl rfl (hrl ([] : List Ch)) rfl rfl (Nat.le_refl _) rfl rfl (by kernel_rfl) (by kernel_rfl) (by simp) (by simp) rfl rfl (hnc1 ([] : List Ch) 3 a.id) .plain <| kas rfl <| RunK.nil ?_)
      exact ⟨ocSt a b ad bd ac bc_ [⟨3, a.id, []⟩] true X, Le.ofR [(500, 17)] (by exact ⟨rfl, rfl, rfl, trivial⟩) (by repeat' (first | exact trivial | refine And.intro ⟨_, rfl, ?_⟩ ?_ | refine And.intro ⟨_, rfl⟩ ?_ | rfl | exact Box.ren_bytes _ _ _ _ | exact Box.ren_vals _ _ _ _ | exact Box.ren_mid rfl)) (by exact rfl) (by exact rfl) (by repeat' (first | refine all_cons_true ?_ ?_ | rfl | exact bytes_inUse | exact vals_inUse | exact mid_inUse rfl)) (by exact rfl) (by exact rfl), true, rfl⟩
  rintro σ ⟨r3, rfl⟩
  generalize rowD a b 3 = R3 at *
  have b4 : R3.length ≤ 12 * 1 := by first | omega | (simp only [List.length_append]; omega)
  (refine LWP.seq <| LWP.draws mixed (by kernel_rfl) <| kmv rfl <| kfa rfl rfl ?_; refine kl1 rfl rfl rfl <| K.loadAll rfl rfl rfl .plain ?_; refine K.loadAll rfl rfl rfl .plain ?_; refine K.callMp [(1000001, 600)] (.sv (.one (.slc 600 0 A4.length 1))) [lnB 600 A4] (p4) rfl rfl (by exact trivial) rfl rfl rfl rfl rfl (by exact (.box rfl (Box.ren_vals _ _ _ _) .nil)) .plain <| K.callMp [(1000000, 600), (1000001, 601)] (.sv (.one (.slc 601 0 A4.length 3))) [lnB 600 A4, dgB 601 R4 false] (f4) rfl rfl (by exact (And.intro ⟨_, rfl, (Box.ren_vals _ _ _ _)⟩ trivial)) (by exact (all_cons_true vals_inUse rfl)) rfl rfl rfl rfl (by exact (.box rfl (Box.ren_vals _ _ _ _) (.box rfl (Box.ren_vals _ _ _ _) .nil))) .plain <| K.appendSlc (by_ := 32) (e2 := 40) (l2 := (chV R4).map .val) (nl := (R3 ++ R4).length) (nc := (chV (R3 ++ R4)).map .val) rfl rfl (hrl R3) rfl rfl (by rw [g4]; exact hle R4) (by rw [g4]; exact htk R4) (chV_solid R4) (by kernel_rfl) (by kernel_rfl) (by omega) (by omega) rfl (by rw [g4]; exact hnl R3 R4) (hnc R3 R4) .plain <| kas rfl <| RunK.nil <| And.intro (by kernel_rfl) ?_; refine LWP.seq ?_)
  refine LWP.le (σ' := ocSt a b ad bd ac bc_ (R3 ++ R4) true X) (Le.ofR [(500, 25)] (by exact ⟨rfl, rfl, rfl, trivial⟩) (by repeat' (first | exact trivial | refine And.intro ⟨_, rfl, ?_⟩ ?_ | refine And.intro ⟨_, rfl⟩ ?_ | rfl | exact Box.ren_bytes _ _ _ _ | exact Box.ren_vals _ _ _ _ | exact Box.ren_mid rfl)) (by exact rfl) (by exact rfl) (by repeat' (first | refine all_cons_true ?_ ?_ | rfl | exact bytes_inUse | exact vals_inUse | exact mid_inUse rfl)) (by exact rfl) (by exact rfl)) ?_
  have b5 : (R3 ++ R4).length ≤ 12 * 2 := by first | omega | (simp only [List.length_append]; omega)
  (refine LWP.draws mixed (by kernel_rfl) <| kmv rfl <| kfa rfl rfl ?_; refine kl1 rfl rfl rfl <| K.loadAll rfl rfl rfl .plain ?_; refine K.loadAll rfl rfl rfl .plain ?_; refine K.callMp [(1000001, 600)] (.sv (.one (.slc 600 0 A5.length 1))) [lnB 600 A5] (p5) rfl rfl (by exact trivial) rfl rfl rfl rfl rfl (by exact (.box rfl (Box.ren_vals _ _ _ _) .nil)) .plain <| K.callMp [(1000000, 600), (1000001, 601)] (.sv (.one (.slc 601 0 A5.length 3))) [lnB 600 A5, dgB 601 R5 false] (f5) rfl rfl (by exact (And.intro ⟨_, rfl, (Box.ren_vals _ _ _ _)⟩ trivial)) (by exact (all_cons_true vals_inUse rfl)) rfl rfl rfl rfl (by exact (.box rfl (Box.ren_vals _ _ _ _) (.box rfl (Box.ren_vals _ _ _ _) .nil))) .plain <| K.appendSlc (by_ := 32) (e2 := 40) (l2 := (chV R5).map .val) (nl := ((R3 ++ R4) ++ R5).length) (nc := (chV ((R3 ++ R4) ++ R5)).map .val) rfl rfl (hrl (R3 ++ R4)) rfl rfl (by rw [g5]; exact hle R5) (by rw [g5]; exact htk R5) (chV_solid R5) (by kernel_rfl) (by kernel_rfl) (by omega) (by omega) rfl (by rw [g5]; exact hnl (R3 ++ R4) R5) (hnc (R3 ++ R4) R5) .plain <| kas rfl <| RunK.nil <| And.intro (by kernel_rfl) ?_; refine LWP.seq ?_)
  refine LWP.le (σ' := ocSt a b ad bd ac bc_ (R3 ++ R4 ++ R5) true X) (Le.ofR [(500, 33)] (by exact ⟨rfl, rfl, rfl, trivial⟩) (by repeat' (first | exact trivial | refine And.intro ⟨_, rfl, ?_⟩ ?_ | refine And.intro ⟨_, rfl⟩ ?_ | rfl | exact Box.ren_bytes _ _ _ _ | exact Box.ren_vals _ _ _ _ | exact Box.ren_mid rfl)) (by exact rfl) (by exact rfl) (by repeat' (first | refine all_cons_true ?_ ?_ | rfl | exact bytes_inUse | exact vals_inUse | exact mid_inUse rfl)) (by exact rfl) (by exact rfl)) ?_
  have b6 : (R3 ++ R4 ++ R5).length ≤ 12 * 3 := by first | omega | (simp only [List.length_append]; omega)
  (refine LWP.draws mixed (by kernel_rfl) <| kmv rfl <| kfa rfl rfl ?_; refine kl1 rfl rfl rfl <| K.loadAll rfl rfl rfl .plain ?_; refine K.loadAll rfl rfl rfl .plain ?_; refine K.callMp [(1000001, 600)] (.sv (.one (.slc 600 0 A6.length 1))) [lnB 600 A6] (p6) rfl rfl (by exact trivial) rfl rfl rfl rfl rfl (by exact (.box rfl (Box.ren_vals _ _ _ _) .nil)) .plain <| K.callMp [(1000000, 600), (1000001, 601)] (.sv (.one (.slc 601 0 A6.length 3))) [lnB 600 A6, dgB 601 R6 false] (f6) rfl rfl (by exact (And.intro ⟨_, rfl, (Box.ren_vals _ _ _ _)⟩ trivial)) (by exact (all_cons_true vals_inUse rfl)) rfl rfl rfl rfl (by exact (.box rfl (Box.ren_vals _ _ _ _) (.box rfl (Box.ren_vals _ _ _ _) .nil))) .plain <| K.appendSlc (by_ := 32) (e2 := 40) (l2 := (chV R6).map .val) (nl := ((R3 ++ R4 ++ R5) ++ R6).length) (nc := (chV ((R3 ++ R4 ++ R5) ++ R6)).map .val) rfl rfl (hrl (R3 ++ R4 ++ R5)) rfl rfl (by rw [g6]; exact hle R6) (by rw [g6]; exact htk R6) (chV_solid R6) (by kernel_rfl) (by kernel_rfl) (by omega) (by omega) rfl (by rw [g6]; exact hnl (R3 ++ R4 ++ R5) R6) (hnc (R3 ++ R4 ++ R5) R6) .plain <| kas rfl <| RunK.nil <| And.intro (by kernel_rfl) ?_; refine LWP.seq <| LWP.seq ?_)
  refine LWP.le (σ' := ocSt a b ad bd ac bc_ (R3 ++ R4 ++ R5 ++ R6) true X) (Le.ofR [(500, 41)] (by exact ⟨rfl, rfl, rfl, trivial⟩) (by repeat' (first | exact trivial | refine And.intro ⟨_, rfl, ?_⟩ ?_ | refine And.intro ⟨_, rfl⟩ ?_ | rfl | exact Box.ren_bytes _ _ _ _ | exact Box.ren_vals _ _ _ _ | exact Box.ren_mid rfl)) (by exact rfl) (by exact rfl) (by repeat' (first | refine all_cons_true ?_ ?_ | rfl | exact bytes_inUse | exact vals_inUse | exact mid_inUse rfl)) (by exact rfl) (by exact rfl)) ?_
  have b7 : (R3 ++ R4 ++ R5 ++ R6).length ≤ 12 * 4 := by first | omega | (simp only [List.length_append]; omega)
  generalize R3 ++ R4 ++ R5 ++ R6 = l at *
  by_cases he : U = V
  · rw [decide_eq_true he, if_neg (by decide)] at e7
    rw [e7, List.append_nil] at hL
    subst hL
    replace q7 := q7 true (decide_eq_true he)
    (refine LWP.draws mixed (by kernel_rfl) <| K.loadAll rfl rfl rfl .plain ?_; refine K.loadAll rfl rfl rfl .plain ?_; refine K.callMp [(1000001, 600)] (.sv (.one (.slc 600 0 U.length 1))) [lnB 600 U] (s1) rfl rfl (by exact trivial) rfl rfl rfl rfl rfl (by exact (.box rfl (Box.ren_vals _ _ _ _) .nil)) .plain <| K.loadAll rfl rfl rfl .plain ?_; refine K.loadAll rfl rfl rfl .plain ?_; refine K.callMp [(1000001, 601)] (.sv (.one (.slc 601 0 V.length 1))) [lnB 601 V] (s2) rfl rfl (by exact trivial) rfl rfl rfl rfl rfl (by exact (.box rfl (Box.ren_vals _ _ _ _) .nil)) .plain <| K.callR [(1000000, 600), (1000001, 601)] (q7) rfl rfl (by exact (And.intro ⟨_, rfl, (Box.ren_vals _ _ _ _)⟩ (And.intro ⟨_, rfl, (Box.ren_vals _ _ _ _)⟩ trivial))) (by exact (all_cons_true vals_inUse (all_cons_true vals_inUse rfl))) rfl rfl rfl rfl .plain <| K.not rfl rfl .plain <| RunK.nil <| And.intro (by kernel_rfl) ?_; refine LWP.condF rfl ?_; refine LWP.skip ?_; refine LWP.seq <| LWP.region (by kernel_rfl) <| kmv rfl <| kas rfl <| RunK.nil <| LWP.ret ?_)
    refine Leads.le (σ' := ⟨[(4, .sv (.one (.slc 500 0 l.length 3)))], [dgB 500 l true], X⟩) (Le.of (by exact ⟨rfl, trivial⟩) (by exact ⟨rfl, trivial⟩) (by exact rfl) (by exact rfl) (by repeat' (first | refine all_cons_true ?_ ?_ | rfl | exact bytes_inUse | exact vals_inUse | exact mid_inUse rfl))) ?_
    refine Leads.le Le.loose (Leads.done ?_)
    exact ⟨[(1000001, 500)], ⟨[_], ⟨rfl, trivial⟩, rfl⟩, (by repeat' (first | exact trivial | refine And.intro ⟨_, rfl, ?_⟩ ?_ | refine And.intro ⟨_, rfl⟩ ?_ | rfl | exact Box.ren_bytes _ _ _ _ | exact Box.ren_vals _ _ _ _ | exact Box.ren_mid rfl)), rfl, rfl⟩
  · rw [decide_eq_false he, if_pos (by decide)] at e7
    rw [e7] at hL
    subst hL
    replace q7 := q7 false (decide_eq_false he)
    (refine LWP.draws mixed (by kernel_rfl) <| K.loadAll rfl rfl rfl .plain ?_; refine K.loadAll rfl rfl rfl .plain ?_; refine K.callMp [(1000001, 600)] (.sv (.one (.slc 600 0 U.length 1))) [lnB 600 U] (s1) rfl rfl (by exact trivial) rfl rfl rfl rfl rfl (by exact (.box rfl (Box.ren_vals _ _ _ _) .nil)) .plain <| K.loadAll rfl rfl rfl .plain ?_; refine K.loadAll rfl rfl rfl .plain ?_; refine K.callMp [(1000001, 601)] (.sv (.one (.slc 601 0 V.length 1))) [lnB 601 V] (s2) rfl rfl (by exact trivial) rfl rfl rfl rfl rfl (by exact (.box rfl (Box.ren_vals _ _ _ _) .nil)) .plain <| K.callR [(1000000, 600), (1000001, 601)] (q7) rfl rfl (by exact (And.intro ⟨_, rfl, (Box.ren_vals _ _ _ _)⟩ (And.intro ⟨_, rfl, (Box.ren_vals _ _ _ _)⟩ trivial))) (by exact (all_cons_true vals_inUse (all_cons_true vals_inUse rfl))) rfl rfl rfl rfl .plain <| K.not rfl rfl .plain <| RunK.nil <| And.intro (by kernel_rfl) ?_; refine LWP.condT rfl ?_; refine LWP.region (by kernel_rfl) <| kmv rfl <| kfa rfl rfl ?_; refine kl1 rfl rfl rfl <| K.build rfl rfl (by exact rfl) (by exact nl3 rfl rfl rfl rfl) .plain ?_; refine K.buildSlc (zs := [.int .i64 0, .int .i64 0, .string ⟨#[]⟩]) (sz := 3) (e := 40) (cs' := [.val (.int .i64 7), .val (.int .i64 a.id), .val (.string ⟨#[]⟩)]) (by kernel_rfl) rfl rfl rfl rfl rfl rfl .plain <| K.appendSlc (by_ := 32) (e2 := 40) (l2 := [.val (.int .i64 7), .val (.int .i64 a.id), .val (.string ⟨#[]⟩)]) (nl := (l ++ [Ch.mk 7 a.id []]).length) (nc := (chV (l ++ [Ch.mk 7 a.id []])).map .val) rfl rfl (hrl l) rfl rfl (Nat.le_refl _) rfl rfl (by kernel_rfl) (by kernel_rfl) (by omega) (by omega) rfl (hnl1 l _) (hnc1 l 7 a.id) .plain <| kas rfl <| RunK.nil <| LWP.seq <| LWP.region (by kernel_rfl) <| kmv rfl <| kas rfl <| RunK.nil <| LWP.ret ?_)
    refine Leads.le (σ' := ⟨[(4, .sv (.one (.slc 500 0 (l ++ [Ch.mk 7 a.id []]).length 3)))], [dgB 500 (l ++ [Ch.mk 7 a.id []]) true], X⟩) (Le.ofR [(500, 55)] (by exact ⟨rfl, trivial⟩) (by repeat' (first | exact trivial | refine And.intro ⟨_, rfl, ?_⟩ ?_ | refine And.intro ⟨_, rfl⟩ ?_ | rfl | exact Box.ren_bytes _ _ _ _ | exact Box.ren_vals _ _ _ _ | exact Box.ren_mid rfl)) (by exact rfl) (by exact rfl) (by repeat' (first | refine all_cons_true ?_ ?_ | rfl | exact bytes_inUse | exact vals_inUse | exact mid_inUse rfl)) (by exact rfl) (by exact rfl)) ?_
    refine Leads.le Le.loose (Leads.done ?_)
    exact ⟨[(1000001, 500)], ⟨[_], ⟨rfl, trivial⟩, rfl⟩, (by repeat' (first | exact trivial | refine And.intro ⟨_, rfl, ?_⟩ ?_ | refine And.intro ⟨_, rfl⟩ ?_ | rfl | exact Box.ren_bytes _ _ _ _ | exact Box.ren_vals _ _ _ _ | exact Box.ren_mid rfl)), rfl, rfl⟩
end Go.Proofs.YtfcaebhofjjjnaaDoor
end
section
namespace Go.Proofs.YtfcaebhofjjjnaaDoor
open Go Go.Lg Go.Lg.Fld
set_option maxRecDepth 100000
variable (X : Nat → Option Obj)
theorem findD (ver : Int) (ad : Option Addr) (cap : Nat) (cs : List Cp) (id : Int) (hin : CompsIn X ad cs) (hS : Small9 cs) :
    ∃ (c : Cp) (b : Bool), (∀ f ∈ c.fs, (-9223372036854775808 ≤ f.kind ∧ f.kind < 9223372036854775808) ∧ (-9223372036854775808 ≤ f.count ∧ f.count < 9223372036854775808)) ∧ ((c.fs = [] ∧ PSpec Tryd.prog X 23 [Sx ver ad cs.length cap, Ln .i64 id] (.tup [SCx c none 0, Sb b])) ∨
        MSpec Tryd.prog X 23 [Sx ver ad cs.length cap, Ln .i64 id] [] (.tup [SCs c 1000001, Sb b]) [fdB 1000001 c.fs]) ∧ ((b = true ∧ atId cs id = some c) ∨ (b = false ∧ atId cs id = none)) := by
  have hb1 : cs.length < 4611686018427387904 := by have := hS.1; omega
  rcases find_cases cs id with ⟨i, c, hc, he, hpre⟩ | hno
  · obtain ⟨hi, e⟩ := List.getElem?_eq_some_iff.1 hc
    obtain ⟨_, _, _, _, _, _, _, _, _, _, _, _, _, _, hFs⟩ := hin.get hc
    refine ⟨c, true, hFs.small, pFind X ver ad cap cs id hin hb1 (fun c hc => by have := hS.2 c hc; omega) hpre hc he, .inl ⟨rfl, ?_⟩⟩
    unfold atId
    rw [List.find?_eq_some_iff_getElem]
    exact ⟨by rw [beq_iff_eq]; exact he, i, hi, e, fun j hj => by rw [hpre j _ hj (List.getElem?_eq_getElem (by omega))]; rfl⟩
  · refine ⟨⟨0, [], []⟩, false, fun f hf => (by cases hf), .inl ⟨rfl, pFind_no X ver ad cap cs id hin hb1 hno⟩, .inr ⟨rfl, ?_⟩⟩
    unfold atId
    rw [List.find?_eq_none]
    intro c hc
    obtain ⟨j, hj⟩ := List.mem_iff_getElem?.1 hc
    simpa using hno j c hj
section
variable (a b : Sc) (ad bd : Option Addr) (ca cb : Nat) (ha : CompsIn X ad a.cs) (hb : CompsIn X bd b.cs) (hsa : Small9 a.cs) (hsb : Small9 b.cs)
include ha hb hsa hsb
set_option maxHeartbeats 3200000 in
theorem dOfId (hga : Go.Lg.Fld.Good a.cs) (hgb : Go.Lg.Fld.Good b.cs) (id : Int) (r : LV) (post : List (Nat × Option Box)) (h : (atId a.cs id = none ∧ atId b.cs id = none ∧ r = .sv (.one (.val (.slice none 0 0))) ∧ post = []) ∨ (¬(atId a.cs id = none ∧ atId b.cs id = none) ∧ r = .sv (.one (.slc 1000001 0 (idD a.cs b.cs id).length 3)) ∧ post = [dgB 1000001 (idD a.cs b.cs id) true])) :
    MSpec Tryd.prog X 21 [Sx a.ver ad a.cs.length ca, Sx b.ver bd b.cs.length cb, Ln .i64 id] [] r post := by
  have hu : r.inUse post = true := by
    rcases h with ⟨_, _, rfl, rfl⟩ | ⟨_, rfl, rfl⟩
    · rfl
    · rfl
  have hu2 : post.all (fun p => match p.2 with | some b => b.cells.all (CV.inUse post) | none => true) = true := by
    rcases h with ⟨_, _, rfl, rfl⟩ | ⟨_, rfl, rfl⟩
    · rfl
    · exact (by repeat' (first | refine all_cons_true ?_ ?_ | rfl | exact bytes_inUse | exact vals_inUse | exact mid_inUse rfl))
  refine MSpec.intro Tryd.func21 rfl (by kernel_rfl) rfl hu hu2 rfl rfl ?_
  intro C
  refine LWP.ends ?_
  obtain ⟨c, h1, hsm1, f1, v1⟩ := findD X a.ver ad ca a.cs id ha hsa
  (refine LWP.seq <| LWP.region (by kernel_rfl) <| K.box rfl rfl rfl .plain <| K.box rfl rfl rfl .plain <| kas rfl <| RunK.nil <| LWP.seq ?_)
  refine LWP.meetL (fun σ => ∃ (X1 : Nat → Option Obj) (fad : Option Addr) (fcap : Nat), (∀ b o, X b = some o → X1 b = some o) ∧ FieldsIn X1 fad c.fs ∧ σ = ⟨[(2, Ln .i64 id), (3, Lp 3), (4, Lp 4), (7, Lp 7), (8, Lb h1)], [cpB 7 c fad fcap, sxB 3 a.ver ad a.cs.length ca, sxB 4 b.ver bd b.cs.length cb], X1⟩) ?_ ?_
  · rcases f1 with ⟨h0, p1⟩ | p1
    · (refine LWP.region (by kernel_rfl) <| K.loadAll rfl rfl rfl .plain ?_; refine kmv rfl <| kca rfl rfl p1 <| kmv rfl <| kex rfl rfl <| kex rfl rfl <| K.alloc rfl .plain ?_; refine K.storeAll rfl rfl rfl rfl rfl rfl .plain ?_; refine kas rfl <| RunK.nil ?_)
      exact Leads.here (Le.of (by exact ⟨rfl, rfl, rfl, rfl, rfl, trivial⟩) (by exact ⟨rfl, rfl, rfl, trivial⟩) (by exact rfl) (by exact rfl) (by repeat' (first | refine all_cons_true ?_ ?_ | rfl | exact bytes_inUse | exact vals_inUse | exact mid_inUse rfl))) ⟨X, none, 0, fun _ _ h => h, fields_none h0, rfl⟩
    · (refine LWP.region (by kernel_rfl) <| K.loadAll rfl rfl rfl .plain ?_; refine kmv rfl <| K.callMp [(1000001, 200)] (.tup [SCs c 200, Sb h1]) [fdB 200 c.fs] (p1) rfl rfl (by exact trivial) rfl rfl rfl rfl rfl (by exact (.box rfl (Box.ren_vals _ _ _ _) .nil)) .plain <| kmv rfl <| kex rfl rfl <| kex rfl rfl <| K.alloc rfl .plain ?_; refine K.storeAll rfl rfl rfl rfl rfl rfl .plain ?_; refine kas rfl <| RunK.nil ?_)
      refine Leads.le (σ' := ⟨[(2, Ln .i64 id), (3, Lp 3), (4, Lp 4), (7, Lp 7), (8, Lb h1)], [(7, some ⟨46, [.val (.int .i64 c.id), .val (.string ⟨c.nm.toArray⟩)] ++ .slc 200 0 c.fs.length 3 :: [], false⟩), (200, some ⟨53, (flV c.fs).map .val, true⟩), sxB 3 a.ver ad a.cs.length ca, sxB 4 b.ver bd b.cs.length cb], X⟩) (Le.of (by exact ⟨rfl, rfl, rfl, rfl, rfl, trivial⟩) (by exact ⟨rfl, rfl, rfl, rfl, trivial⟩) (by exact rfl) (by exact rfl) (by repeat' (first | refine all_cons_true ?_ ?_ | rfl | exact bytes_inUse | exact vals_inUse | exact mid_inUse rfl))) ?_
      refine Leads.freezeCell rfl rfl rfl rfl rfl rfl fun b c1 a f hn _ _ _ hsp => ?_
      exact Leads.done ⟨_, some ⟨b, 0, none⟩, c1, withBlock_old hn, (by obtain ⟨sp, e⟩ := hsp; exact fields_block (withBlock_at _ _ _) e hsm1), rfl⟩
  rintro σ ⟨X1, fad, fcap, hX1, hF, rfl⟩
  obtain ⟨d, h2, hsm2, f2, v2⟩ := findD X1 b.ver bd cb b.cs id (hb.mono hX1) hsb
  refine LWP.seq ?_
  refine LWP.meetL (fun σ => ∃ (X2 : Nat → Option Obj) (gad : Option Addr) (gcap : Nat), (∀ b o, X1 b = some o → X2 b = some o) ∧ FieldsIn X2 gad d.fs ∧ σ = ⟨[(2, Ln .i64 id), (7, Lp 7), (8, Lb h1), (9, Lp 9), (10, Lb h2)], [cpB 9 d gad gcap, cpB 7 c fad fcap], X2⟩) ?_ ?_
  · rcases f2 with ⟨h0, p1⟩ | p1
    · (refine LWP.region (by kernel_rfl) <| K.loadAll rfl rfl rfl .plain ?_; refine kmv rfl <| kca rfl rfl p1 <| kmv rfl <| kex rfl rfl <| kex rfl rfl <| K.alloc rfl .plain ?_; refine K.storeAll rfl rfl rfl rfl rfl rfl .plain ?_; refine kas rfl <| RunK.nil ?_)
      exact Leads.here (Le.of (by exact ⟨rfl, rfl, rfl, rfl, rfl, trivial⟩) (by exact ⟨rfl, rfl, trivial⟩) (by exact rfl) (by exact rfl) (by repeat' (first | refine all_cons_true ?_ ?_ | rfl | exact bytes_inUse | exact vals_inUse | exact mid_inUse rfl))) ⟨X1, none, 0, fun _ _ h => h, fields_none h0, rfl⟩
    · (refine LWP.region (by kernel_rfl) <| K.loadAll rfl rfl rfl .plain ?_; refine kmv rfl <| K.callMp [(1000001, 200)] (.tup [SCs d 200, Sb h2]) [fdB 200 d.fs] (p1) rfl rfl (by exact trivial) rfl rfl rfl rfl rfl (by exact (.box rfl (Box.ren_vals _ _ _ _) .nil)) .plain <| kmv rfl <| kex rfl rfl <| kex rfl rfl <| K.alloc rfl .plain ?_; refine K.storeAll rfl rfl rfl rfl rfl rfl .plain ?_; refine kas rfl <| RunK.nil ?_)
      refine Leads.le (σ' := ⟨[(2, Ln .i64 id), (7, Lp 7), (8, Lb h1), (9, Lp 9), (10, Lb h2)], [(9, some ⟨46, [.val (.int .i64 d.id), .val (.string ⟨d.nm.toArray⟩)] ++ .slc 200 0 d.fs.length 3 :: [], false⟩), (200, some ⟨53, (flV d.fs).map .val, true⟩), cpB 7 c fad fcap], X1⟩) (Le.of (by exact ⟨rfl, rfl, rfl, rfl, rfl, trivial⟩) (by exact ⟨rfl, rfl, rfl, trivial⟩) (by exact rfl) (by exact rfl) (by repeat' (first | refine all_cons_true ?_ ?_ | rfl | exact bytes_inUse | exact vals_inUse | exact mid_inUse rfl))) ?_
      refine Leads.freezeCell rfl rfl rfl rfl rfl rfl fun b c1 a f hn _ _ _ hsp => ?_
      exact Leads.done ⟨_, some ⟨b, 0, none⟩, c1, withBlock_old hn, (by obtain ⟨sp, e⟩ := hsp; exact fields_block (withBlock_at _ _ _) e hsm2), rfl⟩
  rintro σ ⟨X2, gad, gcap, hX2, hG, rfl⟩
  have hF := hF.mono hX2
  rcases v1 with ⟨rfl, z1⟩ | ⟨rfl, z1⟩
  · rcases h with ⟨h, _⟩ | ⟨_, rfl, rfl⟩
    · rw [z1] at h; cases h
    rcases v2 with ⟨rfl, z2⟩ | ⟨rfl, z2⟩
    · rw [show idD a.cs b.cs id = compD c d by unfold idD; rw [z1, z2]]
      have hq := dOfComp X2 c d fad gad fcap gcap hF hG (hsa.2 c (atId_mem z1).1) (hsb.2 d (atId_mem z2).1) (hga.apart (atId_mem z1).1) (hgb.apart (atId_mem z2).1) _ rfl
      generalize compD c d = L at *
      (refine LWP.seq <| LWP.block <| LWP.seq <| LWP.region (by kernel_rfl) <| kmv rfl <| kmv rfl <| gmv rfl rfl rfl <| kpt rfl rfl <| kas rfl <| RunK.nil <| LWP.condT rfl ?_; refine LWP.seq <| LWP.region (by kernel_rfl) <| K.loadAll rfl rfl rfl .plain ?_; refine K.loadAll rfl rfl rfl .plain ?_; refine K.callMp [(1000001, 600)] (.sv (.one (.slc 600 0 L.length 3))) [dgB 600 L true] (hq) rfl rfl (by exact trivial) rfl rfl rfl rfl rfl (by exact (.box rfl (Box.ren_vals _ _ _ _) .nil)) .plain <| kas rfl <| RunK.nil <| LWP.ret ?_)
      refine Leads.done ?_
      exact ⟨[(1000001, 600)], ⟨[_], ⟨rfl, trivial⟩, rfl⟩, (by repeat' (first | exact trivial | refine And.intro ⟨_, rfl, ?_⟩ ?_ | refine And.intro ⟨_, rfl⟩ ?_ | rfl | exact Box.ren_bytes _ _ _ _ | exact Box.ren_vals _ _ _ _ | exact Box.ren_mid rfl)), rfl, rfl⟩
    · rw [show idD a.cs b.cs id = [⟨2, id, []⟩] by unfold idD; rw [z1, z2]]
      (refine LWP.seq <| LWP.block <| LWP.seq <| LWP.region (by kernel_rfl) <| kmv rfl <| kmv rfl <| gmv rfl rfl rfl <| kpt rfl rfl <| kas rfl <| RunK.nil <| LWP.condF rfl ?_; refine LWP.seq <| LWP.region (by kernel_rfl) <| kmv rfl <| kas rfl <| RunK.nil <| LWP.condT rfl ?_; refine LWP.seq <| LWP.region (by kernel_rfl) <| kmv rfl <| K.build rfl rfl (by exact rfl) (by exact nl3 rfl rfl rfl rfl) .plain ?_; refine K.buildSlc (zs := [.int .i64 0, .int .i64 0, .string ⟨#[]⟩]) (sz := 3) (e := 40) (cs' := [.val (.int .i64 2), .val (.int .i64 id), .val (.string ⟨#[]⟩)]) (by kernel_rfl) rfl rfl rfl rfl rfl rfl .plain <| kas rfl <| RunK.nil <| LWP.ret ?_)
      refine Leads.le (σ' := ⟨[(6, .sv (.one (.slc 500 0 1 3)))], [dgB 500 [⟨2, id, []⟩] false], X2⟩) (Le.ofR [(500, 35)] (by exact ⟨rfl, trivial⟩) (by repeat' (first | exact trivial | refine And.intro ⟨_, rfl, ?_⟩ ?_ | refine And.intro ⟨_, rfl⟩ ?_ | rfl | exact Box.ren_bytes _ _ _ _ | exact Box.ren_vals _ _ _ _ | exact Box.ren_mid rfl)) (by exact rfl) (by exact rfl) (by repeat' (first | refine all_cons_true ?_ ?_ | rfl | exact bytes_inUse | exact vals_inUse | exact mid_inUse rfl)) (by exact rfl) (by exact rfl)) ?_
      refine Leads.le Le.loose (Leads.done ?_)
      exact ⟨[(1000001, 500)], ⟨[_], ⟨rfl, trivial⟩, rfl⟩, (by repeat' (first | exact trivial | refine And.intro ⟨_, rfl, ?_⟩ ?_ | refine And.intro ⟨_, rfl⟩ ?_ | rfl | exact Box.ren_bytes _ _ _ _ | exact Box.ren_vals _ _ _ _ | exact Box.ren_mid rfl)), rfl, rfl⟩
  · rcases v2 with ⟨rfl, z2⟩ | ⟨rfl, z2⟩
    · rcases h with ⟨_, h, _⟩ | ⟨_, rfl, rfl⟩
      · rw [z2] at h; cases h
      rw [show idD a.cs b.cs id = [⟨1, id, []⟩] by unfold idD; rw [z1, z2]]
      (refine LWP.seq <| LWP.block <| LWP.seq <| LWP.region (by kernel_rfl) <| kmv rfl <| kmv rfl <| RunK.passed rfl rfl rfl <| kpf rfl rfl <| kas rfl <| RunK.nil <| LWP.condF rfl ?_; refine LWP.seq <| LWP.region (by kernel_rfl) <| kmv rfl <| kas rfl <| RunK.nil <| LWP.condF rfl ?_; refine LWP.seq <| LWP.region (by kernel_rfl) <| kmv rfl <| kas rfl <| RunK.nil <| LWP.condT rfl ?_; refine LWP.seq <| LWP.region (by kernel_rfl) <| kmv rfl <| K.build rfl rfl (by exact rfl) (by exact nl3 rfl rfl rfl rfl) .plain ?_; refine K.buildSlc (zs := [.int .i64 0, .int .i64 0, .string ⟨#[]⟩]) (sz := 3) (e := 40) (cs' := [.val (.int .i64 1), .val (.int .i64 id), .val (.string ⟨#[]⟩)]) (by kernel_rfl) rfl rfl rfl rfl rfl rfl .plain <| kas rfl <| RunK.nil <| LWP.ret ?_)
      refine Leads.le (σ' := ⟨[(6, .sv (.one (.slc 500 0 1 3)))], [dgB 500 [⟨1, id, []⟩] false], X2⟩) (Le.ofR [(500, 40)] (by exact ⟨rfl, trivial⟩) (by repeat' (first | exact trivial | refine And.intro ⟨_, rfl, ?_⟩ ?_ | refine And.intro ⟨_, rfl⟩ ?_ | rfl | exact Box.ren_bytes _ _ _ _ | exact Box.ren_vals _ _ _ _ | exact Box.ren_mid rfl)) (by exact rfl) (by exact rfl) (by repeat' (first | refine all_cons_true ?_ ?_ | rfl | exact bytes_inUse | exact vals_inUse | exact mid_inUse rfl)) (by exact rfl) (by exact rfl)) ?_
      refine Leads.le Le.loose (Leads.done ?_)
      exact ⟨[(1000001, 500)], ⟨[_], ⟨rfl, trivial⟩, rfl⟩, (by repeat' (first | exact trivial | refine And.intro ⟨_, rfl, ?_⟩ ?_ | refine And.intro ⟨_, rfl⟩ ?_ | rfl | exact Box.ren_bytes _ _ _ _ | exact Box.ren_vals _ _ _ _ | exact Box.ren_mid rfl)), rfl, rfl⟩
    · rcases h with ⟨_, _, rfl, rfl⟩ | ⟨h, _, _⟩
      · (refine LWP.seq <| LWP.block <| LWP.seq <| LWP.region (by kernel_rfl) <| kmv rfl <| kmv rfl <| RunK.passed rfl rfl rfl <| kpf rfl rfl <| kas rfl <| RunK.nil <| LWP.condF rfl ?_; refine LWP.seq <| LWP.region (by kernel_rfl) <| kmv rfl <| kas rfl <| RunK.nil <| LWP.condF rfl ?_; refine LWP.seq <| LWP.region (by kernel_rfl) <| kmv rfl <| kas rfl <| RunK.nil <| LWP.condF rfl ?_; refine LWP.skip ?_; refine LWP.seq <| LWP.region (by kernel_rfl) <| kas rfl <| RunK.nil <| LWP.ret ?_)
        refine Leads.done ?_
        exact ⟨[], ⟨[_], ⟨rfl, trivial⟩, rfl⟩, (by repeat' (first | exact trivial | refine And.intro ⟨_, rfl, ?_⟩ ?_ | refine And.intro ⟨_, rfl⟩ ?_ | rfl | exact Box.ren_bytes _ _ _ _ | exact Box.ren_vals _ _ _ _ | exact Box.ren_mid rfl)), rfl, rfl⟩
      · exact absurd ⟨z1, z2⟩ h
theorem dCheckBoth (hna : NamesC a.cs) (hnb : NamesC b.cs) : PSpec Tryd.prog X 20 [Sx a.ver ad a.cs.length ca, Sx b.ver bd b.cs.length cb] (Ln .i64 (chkAB a b)) := by
  refine PSpec.intro Tryd.func20 rfl (by kernel_rfl) rfl rfl ?_
  intro C
  have c1 := pCheckBig X a ad ca ha (by have := hsa.1; omega) hna _ rfl
  have c2 := pCheckBig X b bd cb hb (by have := hsb.1; omega) hnb _ rfl
  unfold chkAB
  generalize chkE a = ea at *
  generalize chkE b = eb at *
  by_cases h : ea = 0
  · rw [if_pos h]
    (refine LWP.seq <| LWP.region (by kernel_rfl) <| K.box rfl rfl rfl .plain <| K.box rfl rfl rfl .plain <| kas rfl <| RunK.nil <| LWP.seq <| LWP.seq <| LWP.region (by kernel_rfl) <| K.loadAll rfl rfl rfl .plain ?_; refine kca rfl rfl c1 <| kas rfl <| RunK.nil <| LWP.seq <| LWP.region (by kernel_rfl) <| kmv rfl <| kne rfl rfl (r := false) (by rw [h]; rfl) <| RunK.nil <| LWP.condF rfl ?_; refine LWP.skip ?_; refine LWP.seq <| LWP.region (by kernel_rfl) <| K.loadAll rfl rfl rfl .plain ?_; refine kca rfl rfl c2 <| kas rfl <| RunK.nil <| LWP.ret ?_)
    exact ⟨[_], ⟨rfl, trivial⟩, rfl⟩
  · rw [if_neg h]
    (refine LWP.seq <| LWP.region (by kernel_rfl) <| K.box rfl rfl rfl .plain <| K.box rfl rfl rfl .plain <| kas rfl <| RunK.nil <| LWP.seq <| LWP.seq <| LWP.region (by kernel_rfl) <| K.loadAll rfl rfl rfl .plain ?_; refine kca rfl rfl c1 <| kas rfl <| RunK.nil <| LWP.seq <| LWP.region (by kernel_rfl) <| kmv rfl <| kne rfl rfl (r := true) (by rw [bne_iff_ne]; exact h) <| RunK.nil <| LWP.condT rfl ?_; refine LWP.seq <| LWP.region (by kernel_rfl) <| kmv rfl <| kas rfl <| RunK.nil <| LWP.ret ?_)
    exact ⟨[_], ⟨rfl, trivial⟩, rfl⟩
variable (hna : NamesC a.cs) (hnb : NamesC b.cs)
include hna hnb
theorem dOf_no (h : chkAB a b ≠ 0) : MSpec Tryd.prog X 10 [Sx a.ver ad a.cs.length ca, Sx b.ver bd b.cs.length cb] [] (.tup [.one (.val (.slice none 0 0)), Sn .i64 (chkAB a b)]) [] := by
  refine MSpec.intro Tryd.func10 rfl (by kernel_rfl) rfl rfl rfl rfl rfl ?_
  intro C
  have hq := dCheckBoth X a b ad bd ca cb ha hb hsa hsb hna hnb
  generalize chkAB a b = e at *
  (refine LWP.seq <| LWP.region (by kernel_rfl) <| K.box rfl rfl rfl .plain <| K.box rfl rfl rfl .plain <| kas rfl <| kas rfl <| RunK.nil <| LWP.seq <| LWP.seq <| LWP.region (by kernel_rfl) <| K.loadAll rfl rfl rfl .plain ?_; refine K.loadAll rfl rfl rfl .plain ?_; refine kca rfl rfl hq <| kas rfl <| RunK.nil <| LWP.seq <| LWP.region (by kernel_rfl) <| kmv rfl <| kne rfl rfl (r := true) (by rw [bne_iff_ne]; exact h) <| RunK.nil <| LWP.condT rfl ?_; refine LWP.seq <| LWP.region (by kernel_rfl) <| kmv rfl <| kas rfl <| kas rfl <| RunK.nil <| LWP.ret ?_)
  exact ⟨[], ⟨[_, _], ⟨rfl, rfl, trivial⟩, rfl⟩, (by repeat' (first | exact trivial | refine And.intro ⟨_, rfl, ?_⟩ ?_ | refine And.intro ⟨_, rfl⟩ ?_ | rfl | exact Box.ren_bytes _ _ _ _ | exact Box.ren_vals _ _ _ _ | exact Box.ren_mid rfl)), rfl, rfl⟩
abbrev doSt (va vb : Int) (ad bd : Option Addr) (na ca nb cb : Nat) (l : List Ch) (r : Bool) (n : Nat) (Y : Nat → Option Obj) : St := ⟨[(2, Lp 2), (3, Lp 3), (7, .sv (.one (.slc 500 0 l.length 3))), (8, Ln .i64 ((n + 1 : Nat) : Int))], [dgB 500 l r, sxB 2 va ad na ca, sxB 3 vb bd nb cb], Y⟩
set_option maxHeartbeats 3200000 in
theorem dOf_ok (h : chkAB a b = 0) : MSpec Tryd.prog X 10 [Sx a.ver ad a.cs.length ca, Sx b.ver bd b.cs.length cb] [] (.tup [.one (.slc 1000001 0 (diffL a.cs b.cs).length 3), Sn .i64 0]) [dhB 1000001 (diffL a.cs b.cs)] := by
  refine MSpec.intro Tryd.func10 rfl (by kernel_rfl) rfl rfl (by exact (by repeat' (first | refine all_cons_true ?_ ?_ | rfl | exact bytes_inUse | exact vals_inUse | exact mid_inUse rfl))) rfl rfl ?_
  intro C
  have hck := dCheckBoth X a b ad bd ca cb ha hb hsa hsb hna hnb
  rw [h] at hck
  obtain ⟨h1, h2⟩ := chkAB_zero.1 h
  have hga := chk_good h1
  have hgb := chk_good h2
  have hrl : ∀ l : List Ch, ((chV l).map CV.val).length = l.length * 3 := fun l => by rw [List.length_map, chV_len]
  have hnl : ∀ l m : List Ch, l.length + m.length = (l ++ m).length := fun l m => (List.length_append).symm
  have hnc : ∀ l m : List Ch, (chV l).map CV.val ++ (chV m).map CV.val = (chV (l ++ m)).map CV.val := fun l m => by rw [chV_app, List.map_append]
  have htk : ∀ m : List Ch, ((chV m).map CV.val).take (m.length * 3) = (chV m).map CV.val := fun m => List.take_of_length_le (by rw [hrl]; exact Nat.le_refl _)
  have hle : ∀ m : List Ch, m.length * 3 ≤ ((chV m).map CV.val).length := fun m => by rw [hrl]; exact Nat.le_refl _
  refine LWP.ends ?_
  (refine LWP.seq <| LWP.region (by kernel_rfl) <| K.box rfl rfl rfl .plain <| K.box rfl rfl rfl .plain <| kas rfl <| kas rfl <| RunK.nil <| LWP.seq <| LWP.seq <| LWP.region (by kernel_rfl) <| K.loadAll rfl rfl rfl .plain ?_; refine K.loadAll rfl rfl rfl .plain ?_; refine kca rfl rfl hck <| kas rfl <| RunK.nil <| LWP.seq <| LWP.region (by kernel_rfl) <| kmv rfl <| kne rfl rfl (r := false) rfl <| RunK.nil <| LWP.condF rfl ?_; refine LWP.skip ?_; refine LWP.seq <| LWP.region (by kernel_rfl) <| K.buildSlc (zs := []) (sz := 3) (e := 40) (by kernel_rfl) rfl rfl rfl rfl rfl rfl .plain <| kas rfl <| RunK.nil <| LWP.seq <| LWP.seq <| LWP.region (by kernel_rfl) <| kas rfl <| RunK.nil <| LWP.block ?_)
  refine LWP.loop (fun m σ => ∃ (n : Nat) (r : Bool), n ≤ 24 ∧ m = 24 - n ∧ σ = doSt a.ver b.ver ad bd a.cs.length ca b.cs.length cb (upD a.cs b.cs n) r n X) 24
    ⟨doSt a.ver b.ver ad bd a.cs.length ca b.cs.length cb [] false 0 X, Le.ofR [(500, 15)] (by exact ⟨rfl, rfl, rfl, rfl, trivial⟩) (by repeat' (first | exact trivial | refine And.intro ⟨_, rfl, ?_⟩ ?_ | refine And.intro ⟨_, rfl⟩ ?_ | rfl | exact Box.ren_bytes _ _ _ _ | exact Box.ren_vals _ _ _ _ | exact Box.ren_mid rfl)) (by exact rfl) (by exact rfl) (by repeat' (first | refine all_cons_true ?_ ?_ | rfl | exact bytes_inUse | exact vals_inUse | exact mid_inUse rfl)) (by exact rfl) (by exact rfl), 0, false, by omega, by omega, rfl⟩ ?_
  rintro m σ ⟨n, r, hn, rfl, rfl⟩
  have hup := up_len hsa.2 hsb.2 n
  by_cases hlt : n < 24
  · have hsn := upD_succ a.cs b.cs n
    have hil := id_len hsa.2 hsb.2 ((n + 1 : Nat) : Int)
    have hleq : (((n + 1 : Nat) : Int)) ≤ 24 := by omega
    have hadd : IntKind.i64.wrap (((n + 1 : Nat) : Int) + 1) = ((n + 1 + 1 : Nat) : Int) := by rw [wrap_i64 (by omega)]; omega
    by_cases hno : atId a.cs ((n + 1 : Nat) : Int) = none ∧ atId b.cs ((n + 1 : Nat) : Int) = none
    · have hq := dOfId X a b ad bd ca cb ha hb hsa hsb hga hgb ((n + 1 : Nat) : Int) _ _ (.inl ⟨hno.1, hno.2, rfl, rfl⟩)
      rw [show idD a.cs b.cs ((n + 1 : Nat) : Int) = [] by unfold idD; rw [hno.1, hno.2], List.append_nil] at hsn
      generalize upD a.cs b.cs n = l at *
      (refine LWP.seq <| LWP.seq <| LWP.region (by kernel_rfl) <| kmv rfl <| K.leq rfl rfl (decide_eq_true hleq) .plain <| RunK.nil <| LWP.condT rfl ?_; refine LWP.skip ?_; refine LWP.seq <| LWP.block <| LWP.region (by kernel_rfl) <| kmv rfl <| K.loadAll rfl rfl rfl .plain ?_; refine K.loadAll rfl rfl rfl .plain ?_; refine kmv rfl <| K.callM [] [] (hq) rfl rfl (by exact trivial) rfl rfl rfl rfl rfl (by exact .nil) .plain <| K.appendX0 (by_ := 32) (e2 := 40) (nl := l.length) (nc := (chV l).map .val) rfl rfl (hrl l) rfl (by kernel_rfl) (by kernel_rfl) (by omega) (by omega) rfl (Nat.add_zero _) (List.append_nil _) .plain ?_; refine kas rfl <| RunK.nil <| LWP.region (by kernel_rfl) <| kmv rfl <| kad rfl rfl hadd <| kas rfl <| RunK.nil ?_)
      exact ⟨_, doSt a.ver b.ver ad bd a.cs.length ca b.cs.length cb l true (n + 1) X, by omega, Le.ofR [(500, 25)] (by exact ⟨rfl, rfl, rfl, rfl, trivial⟩) (by repeat' (first | exact trivial | refine And.intro ⟨_, rfl, ?_⟩ ?_ | refine And.intro ⟨_, rfl⟩ ?_ | rfl | exact Box.ren_bytes _ _ _ _ | exact Box.ren_vals _ _ _ _ | exact Box.ren_mid rfl)) (by exact rfl) (by exact rfl) (by repeat' (first | refine all_cons_true ?_ ?_ | rfl | exact bytes_inUse | exact vals_inUse | exact mid_inUse rfl)) (by exact rfl) (by exact rfl), n + 1, true, by omega, rfl, by rw [hsn]⟩
    · have hq := dOfId X a b ad bd ca cb ha hb hsa hsb hga hgb ((n + 1 : Nat) : Int) _ _ (.inr ⟨hno, rfl, rfl⟩)
      generalize upD a.cs b.cs n = l at *
      generalize idD a.cs b.cs ((n + 1 : Nat) : Int) = M at *
      (refine LWP.seq <| LWP.seq <| LWP.region (by kernel_rfl) <| kmv rfl <| K.leq rfl rfl (decide_eq_true hleq) .plain <| RunK.nil <| LWP.condT rfl ?_; refine LWP.skip ?_; refine LWP.seq <| LWP.block <| LWP.region (by kernel_rfl) <| kmv rfl <| K.loadAll rfl rfl rfl .plain ?_; refine K.loadAll rfl rfl rfl .plain ?_; refine kmv rfl <| K.callMp [(1000001, 600)] (.sv (.one (.slc 600 0 M.length 3))) [dgB 600 M true] (hq) rfl rfl (by exact trivial) rfl rfl rfl rfl rfl (by exact (.box rfl (Box.ren_vals _ _ _ _) .nil)) .plain <| K.appendSlc (by_ := 32) (e2 := 40) (l2 := (chV M).map .val) (nl := (l ++ M).length) (nc := (chV (l ++ M)).map .val) rfl rfl (hrl l) rfl rfl (hle M) (htk M) (chV_solid M) (by kernel_rfl) (by kernel_rfl) (by omega) (by omega) rfl (hnl l M) (hnc l M) .plain <| kas rfl <| RunK.nil <| LWP.region (by kernel_rfl) <| kmv rfl <| kad rfl rfl hadd <| kas rfl <| RunK.nil ?_)
      exact ⟨_, doSt a.ver b.ver ad bd a.cs.length ca b.cs.length cb (l ++ M) true (n + 1) X, by omega, Le.ofR [(500, 25)] (by exact ⟨rfl, rfl, rfl, rfl, trivial⟩) (by repeat' (first | exact trivial | refine And.intro ⟨_, rfl, ?_⟩ ?_ | refine And.intro ⟨_, rfl⟩ ?_ | rfl | exact Box.ren_bytes _ _ _ _ | exact Box.ren_vals _ _ _ _ | exact Box.ren_mid rfl)) (by exact rfl) (by exact rfl) (by repeat' (first | refine all_cons_true ?_ ?_ | rfl | exact bytes_inUse | exact vals_inUse | exact mid_inUse rfl)) (by exact rfl) (by exact rfl), n + 1, true, by omega, rfl, by rw [hsn]⟩
  · have e : n = 24 := by omega
    subst e
    rw [show upD a.cs b.cs 24 = diffL a.cs b.cs from rfl]
    generalize diffL a.cs b.cs = l at *
    (refine LWP.seq <| LWP.seq <| LWP.region (by kernel_rfl) <| kmv rfl <| K.leq rfl rfl (r := false) rfl .plain <| RunK.nil <| LWP.condF rfl ?_; refine LWP.exit <| LWP.seq <| LWP.region (by kernel_rfl) <| kmv rfl <| kas rfl <| kas rfl <| RunK.nil <| LWP.ret ?_)
    refine Leads.le (σ' := ⟨[(4, .sv (.one (.slc 500 0 l.length 3))), (5, Ln .i64 0)], [dgB 500 l r], X⟩) (Le.of (by exact ⟨rfl, rfl, trivial⟩) (by exact ⟨rfl, trivial⟩) (by exact rfl) (by exact rfl) (by repeat' (first | refine all_cons_true ?_ ?_ | rfl | exact bytes_inUse | exact vals_inUse | exact mid_inUse rfl))) ?_
    refine Leads.le Le.loose (Leads.done ?_)
    exact ⟨[(1000001, 500)], ⟨[_, _], ⟨rfl, rfl, trivial⟩, rfl⟩, (by repeat' (first | exact trivial | refine And.intro ⟨_, rfl, ?_⟩ ?_ | refine And.intro ⟨_, rfl⟩ ?_ | rfl | exact Box.ren_bytes _ _ _ _ | exact Box.ren_vals _ _ _ _ | exact Box.ren_mid rfl)), rfl, rfl⟩
end
end Go.Proofs.YtfcaebhofjjjnaaDoor
end
section
namespace Go.Lg.Fld
open Go Go.Lg
def wdT (k : Int) : List UInt8 := if k < 1 ∨ 7 < k then [] else chW k
theorem chW_ne {k : Int} (h1 : 1 ≤ k) (h7 : k ≤ 7) : chW k ≠ [] := by
  obtain rfl | rfl | rfl | rfl | rfl | rfl | rfl : k = 1 ∨ k = 2 ∨ k = 3 ∨ k = 4 ∨ k = 5 ∨ k = 6 ∨ k = 7 := by omega
  all_goals decide
end Go.Lg.Fld
namespace Go.Proofs.YtfcaebhofjjjnaaDoor
open Go Go.Lg Go.Lg.Fld
set_option maxRecDepth 100000
variable (X : Nat → Option Obj)
def DTab : Prop := ∀ w : World, (∀ b o, X b = some o → w.heap[b]? = some o) → Lib.TabIs Tryd.prog w "internal/strconv.uint64pow10" .u64 Lib.pow10Tab
theorem itoa_spec (hT : DTab X) (n : Int) (h0 : -9223372036854775808 ≤ n) (h1 : n < 9223372036854775808) : PSpec Tryd.prog X 27 [Ln .i64 n] (Ls (Lib.itoa n)) :=
  PSpec.ofBelow (vals := [.int .i64 n]) (v := .string ⟨(Lib.itoa n).toArray⟩) (by kernel_rfl) rfl rfl (fun w hX => (Tryd.strconv_Itoa n h0 (by omega) w (hT w hX)).mono fun _ _ ⟨he, k, os, hw⟩ => ⟨he, by rw [hw]; exact Go.Lib.below_grow _ _ (Nat.le_refl _) k os⟩)
theorem itoa_small (n : Nat) (h1 : n < 100) : PSpec Tryd.prog X 27 [Ln .i64 (n : Nat)] (Ls (Lib.itoa (n : Nat))) :=
  PSpec.ofBelow (vals := [.int .i64 (n : Nat)]) (v := .string ⟨(Lib.itoa (n : Nat)).toArray⟩) (by kernel_rfl) rfl rfl (fun w _ => (Tryd.strconv_Itoa_small n h1 w).mono fun _ _ ⟨he, hw⟩ => ⟨by rw [Lib.itoa_nonneg]; exact he, by rw [hw]; exact Go.RowKit.Below.refl _ _⟩)
theorem wordOf9_spec (k : Int) : PSpec Tryd.prog X 26 [Ln .i64 k] (Ls (wdT k)) := by
  refine PSpec.intro Tryd.func26 rfl (by kernel_rfl) rfl rfl ?_
  intro C
  by_cases hk : k < 1 ∨ 7 < k
  · rw [show wdT k = [] by unfold wdT; rw [if_pos hk]]
    have g : ∀ j : Int, 1 ≤ j → j ≤ 7 → (k == j) = false := fun j h1 h7 => beq_eq_false_iff_ne.2 (by omega)
    (refine LWP.seq <| LWP.region (by kernel_rfl) <| kas rfl <| RunK.nil <| LWP.seq <| LWP.seq <| LWP.region (by kernel_rfl) <| kmv rfl <| RunK.nil <| LWP.block <| LWP.seq <| LWP.region (by kernel_rfl) <| keq rfl rfl (g 1 (by decide) (by decide)) <| kas rfl ?_; refine RunK.nil <| LWP.condF rfl ?_; refine LWP.seq <| LWP.region (by kernel_rfl) <| keq rfl rfl (g 2 (by decide) (by decide)) <| kas rfl <| RunK.nil <| LWP.condF rfl ?_; refine LWP.seq <| LWP.region (by kernel_rfl) <| keq rfl rfl (g 3 (by decide) (by decide)) <| kas rfl <| RunK.nil <| LWP.condF rfl ?_; refine LWP.seq <| LWP.region (by kernel_rfl) <| keq rfl rfl (g 4 (by decide) (by decide)) <| kas rfl <| RunK.nil <| LWP.condF rfl ?_; refine LWP.seq <| LWP.region (by kernel_rfl) <| keq rfl rfl (g 5 (by decide) (by decide)) <| kas rfl <| RunK.nil <| LWP.condF rfl ?_; refine LWP.seq <| LWP.region (by kernel_rfl) <| keq rfl rfl (g 6 (by decide) (by decide)) <| kas rfl <| RunK.nil <| LWP.condF rfl ?_; refine LWP.seq <| LWP.region (by kernel_rfl) <| keq rfl rfl (g 7 (by decide) (by decide)) <| kas rfl <| RunK.nil <| LWP.condF rfl ?_; refine LWP.skip ?_; refine LWP.seq <| LWP.region (by kernel_rfl) <| kas rfl <| RunK.nil <| LWP.ret ?_)
    exact ⟨[_], ⟨rfl, trivial⟩, rfl⟩
  · obtain rfl | rfl | rfl | rfl | rfl | rfl | rfl : k = 1 ∨ k = 2 ∨ k = 3 ∨ k = 4 ∨ k = 5 ∨ k = 6 ∨ k = 7 := by omega
    · (refine LWP.seq <| LWP.region (by kernel_rfl) <| kas rfl <| RunK.nil <| LWP.seq <| LWP.seq <| LWP.region (by kernel_rfl) <| kmv rfl <| RunK.nil <| LWP.block <| LWP.seq <| LWP.region (by kernel_rfl) <| keq rfl rfl (r := true) rfl <| kas rfl ?_; refine RunK.nil <| LWP.condT rfl ?_; refine LWP.seq <| LWP.region (by kernel_rfl) <| kas rfl <| RunK.nil <| LWP.ret ?_)
      exact ⟨[_], ⟨rfl, trivial⟩, rfl⟩
    · (refine LWP.seq <| LWP.region (by kernel_rfl) <| kas rfl <| RunK.nil <| LWP.seq <| LWP.seq <| LWP.region (by kernel_rfl) <| kmv rfl <| RunK.nil <| LWP.block <| LWP.seq <| LWP.region (by kernel_rfl) <| keq rfl rfl (r := false) rfl <| kas rfl ?_; refine RunK.nil <| LWP.condF rfl ?_; refine LWP.seq <| LWP.region (by kernel_rfl) <| keq rfl rfl (r := true) rfl <| kas rfl <| RunK.nil <| LWP.condT rfl ?_; refine LWP.seq <| LWP.region (by kernel_rfl) <| kas rfl <| RunK.nil <| LWP.ret ?_)
      exact ⟨[_], ⟨rfl, trivial⟩, rfl⟩
    · (refine LWP.seq <| LWP.region (by kernel_rfl) <| kas rfl <| RunK.nil <| LWP.seq <| LWP.seq <| LWP.region (by kernel_rfl) <| kmv rfl <| RunK.nil <| LWP.block <| LWP.seq <| LWP.region (by kernel_rfl) <| keq rfl rfl (r := false) rfl <| kas rfl ?_; refine RunK.nil <| LWP.condF rfl ?_; refine LWP.seq <| LWP.region (by kernel_rfl) <| keq rfl rfl (r := false) rfl <| kas rfl <| RunK.nil <| LWP.condF rfl ?_; refine LWP.seq <| LWP.region (by kernel_rfl) <| keq rfl rfl (r := true) rfl <| kas rfl <| RunK.nil <| LWP.condT rfl ?_; refine LWP.seq <| LWP.region (by kernel_rfl) <| kas rfl <| RunK.nil <| LWP.ret ?_)
      exact ⟨[_], ⟨rfl, trivial⟩, rfl⟩
    · (refine LWP.seq <| LWP.region (by kernel_rfl) <| kas rfl <| RunK.nil <| LWP.seq <| LWP.seq <| LWP.region (by kernel_rfl) <| kmv rfl <| RunK.nil <| LWP.block <| LWP.seq <| LWP.region (by kernel_rfl) <| keq rfl rfl (r := false) rfl <| kas rfl ?_; refine RunK.nil <| LWP.condF rfl ?_; refine LWP.seq <| LWP.region (by kernel_rfl) <| keq rfl rfl (r := false) rfl <| kas rfl <| RunK.nil <| LWP.condF rfl ?_; refine LWP.seq <| LWP.region (by kernel_rfl) <| keq rfl rfl (r := false) rfl <| kas rfl <| RunK.nil <| LWP.condF rfl ?_; refine LWP.seq <| LWP.region (by kernel_rfl) <| keq rfl rfl (r := true) rfl <| kas rfl <| RunK.nil <| LWP.condT rfl ?_; refine LWP.seq <| LWP.region (by kernel_rfl) <| kas rfl <| RunK.nil <| LWP.ret ?_)
      exact ⟨[_], ⟨rfl, trivial⟩, rfl⟩
    · (refine LWP.seq <| LWP.region (by kernel_rfl) <| kas rfl <| RunK.nil <| LWP.seq <| LWP.seq <| LWP.region (by kernel_rfl) <| kmv rfl <| RunK.nil <| LWP.block <| LWP.seq <| LWP.region (by kernel_rfl) <| keq rfl rfl (r := false) rfl <| kas rfl ?_; refine RunK.nil <| LWP.condF rfl ?_; refine LWP.seq <| LWP.region (by kernel_rfl) <| keq rfl rfl (r := false) rfl <| kas rfl <| RunK.nil <| LWP.condF rfl ?_; refine LWP.seq <| LWP.region (by kernel_rfl) <| keq rfl rfl (r := false) rfl <| kas rfl <| RunK.nil <| LWP.condF rfl ?_; refine LWP.seq <| LWP.region (by kernel_rfl) <| keq rfl rfl (r := false) rfl <| kas rfl <| RunK.nil <| LWP.condF rfl ?_; refine LWP.seq <| LWP.region (by kernel_rfl) <| keq rfl rfl (r := true) rfl <| kas rfl <| RunK.nil <| LWP.condT rfl ?_; refine LWP.seq <| LWP.region (by kernel_rfl) <| kas rfl <| RunK.nil <| LWP.ret ?_)
      exact ⟨[_], ⟨rfl, trivial⟩, rfl⟩
    · (refine LWP.seq <| LWP.region (by kernel_rfl) <| kas rfl <| RunK.nil <| LWP.seq <| LWP.seq <| LWP.region (by kernel_rfl) <| kmv rfl <| RunK.nil <| LWP.block <| LWP.seq <| LWP.region (by kernel_rfl) <| keq rfl rfl (r := false) rfl <| kas rfl ?_; refine RunK.nil <| LWP.condF rfl ?_; refine LWP.seq <| LWP.region (by kernel_rfl) <| keq rfl rfl (r := false) rfl <| kas rfl <| RunK.nil <| LWP.condF rfl ?_; refine LWP.seq <| LWP.region (by kernel_rfl) <| keq rfl rfl (r := false) rfl <| kas rfl <| RunK.nil <| LWP.condF rfl ?_; refine LWP.seq <| LWP.region (by kernel_rfl) <| keq rfl rfl (r := false) rfl <| kas rfl <| RunK.nil <| LWP.condF rfl ?_; refine LWP.seq <| LWP.region (by kernel_rfl) <| keq rfl rfl (r := false) rfl <| kas rfl <| RunK.nil <| LWP.condF rfl ?_; refine LWP.seq <| LWP.region (by kernel_rfl) <| keq rfl rfl (r := true) rfl <| kas rfl <| RunK.nil <| LWP.condT rfl ?_; refine LWP.seq <| LWP.region (by kernel_rfl) <| kas rfl <| RunK.nil <| LWP.ret ?_)
      exact ⟨[_], ⟨rfl, trivial⟩, rfl⟩
    · (refine LWP.seq <| LWP.region (by kernel_rfl) <| kas rfl <| RunK.nil <| LWP.seq <| LWP.seq <| LWP.region (by kernel_rfl) <| kmv rfl <| RunK.nil <| LWP.block <| LWP.seq <| LWP.region (by kernel_rfl) <| keq rfl rfl (r := false) rfl <| kas rfl ?_; refine RunK.nil <| LWP.condF rfl ?_; refine LWP.seq <| LWP.region (by kernel_rfl) <| keq rfl rfl (r := false) rfl <| kas rfl <| RunK.nil <| LWP.condF rfl ?_; refine LWP.seq <| LWP.region (by kernel_rfl) <| keq rfl rfl (r := false) rfl <| kas rfl <| RunK.nil <| LWP.condF rfl ?_; refine LWP.seq <| LWP.region (by kernel_rfl) <| keq rfl rfl (r := false) rfl <| kas rfl <| RunK.nil <| LWP.condF rfl ?_; refine LWP.seq <| LWP.region (by kernel_rfl) <| keq rfl rfl (r := false) rfl <| kas rfl <| RunK.nil <| LWP.condF rfl ?_; refine LWP.seq <| LWP.region (by kernel_rfl) <| keq rfl rfl (r := false) rfl <| kas rfl <| RunK.nil <| LWP.condF rfl ?_; refine LWP.seq <| LWP.region (by kernel_rfl) <| keq rfl rfl (r := true) rfl <| kas rfl <| RunK.nil <| LWP.condT rfl ?_; refine LWP.seq <| LWP.region (by kernel_rfl) <| kas rfl <| RunK.nil <| LWP.ret ?_)
      exact ⟨[_], ⟨rfl, trivial⟩, rfl⟩
set_option maxHeartbeats 1600000 in
theorem dLineI (x : Ch) (h0 : -9223372036854775808 ≤ x.comp) (h1 : x.comp < 9223372036854775808) (hfl : x.fld.length ≤ 4611686018427387904) (hD : PSpec Tryd.prog X 27 [Ln .i64 x.comp] (Ls (Lib.itoa x.comp))) : PSpec Tryd.prog X 16 [Hx x] (Ls (lineT x)) := by
  refine PSpec.intro Tryd.func16 rfl (by kernel_rfl) rfl rfl ?_
  intro C
  have hW := wordOf9_spec X x.kind
  by_cases hk : x.kind < 1 ∨ 7 < x.kind
  · rw [show lineT x = [] by unfold lineT; rw [if_pos hk]]
    rw [show wdT x.kind = [] by unfold wdT; rw [if_pos hk]] at hW
    (refine LWP.seq <| LWP.region (by kernel_rfl) <| K.box rfl rfl rfl .plain <| kas rfl <| RunK.nil <| LWP.seq <| LWP.region (by kernel_rfl) <| kfa rfl rfl ?_; refine kl1 rfl rfl rfl <| kca rfl rfl hW <| kas rfl <| RunK.nil <| LWP.seq <| LWP.seq <| LWP.region (by kernel_rfl) <| kmv rfl <| kse rfl rfl (strs_eq (r := true) rfl) <| RunK.nil <| LWP.condT rfl ?_; refine LWP.seq <| LWP.region (by kernel_rfl) <| kas rfl <| RunK.nil <| LWP.ret ?_)
    exact ⟨[_], ⟨rfl, trivial⟩, rfl⟩
  · rw [show wdT x.kind = chW x.kind by unfold wdT; rw [if_neg hk]] at hW
    have hwe : (chW x.kind == ([] : List UInt8)) = false := beq_eq_false_iff_ne.2 (chW_ne (by omega) (by omega))
    have hl1 := chW_len x.kind
    have hl2 := Lib.itoa_length_le x.comp h0 (by omega)
    have hle : lineT x = if x.fld = [] then chW x.kind ++ [32] ++ Lib.itoa x.comp else chW x.kind ++ [32] ++ Lib.itoa x.comp ++ ([32] ++ x.fld) := by
      unfold lineT
      rw [if_neg hk]
      by_cases hf : x.fld = []
      · rw [if_pos hf, if_pos hf]
      · rw [if_neg hf, if_neg hf, ← List.append_assoc]
    rw [hle]
    generalize Lib.itoa x.comp = t at *
    generalize chW x.kind = w at *
    have g1 : (⟨w.toArray⟩ : ByteArray).size + (⟨([32] : List UInt8).toArray⟩ : ByteArray).size ≤ 9223372036854775807 := by show w.length + 1 ≤ _; omega
    have g2 : (⟨(w ++ [32]).toArray⟩ : ByteArray).size + (⟨t.toArray⟩ : ByteArray).size ≤ 9223372036854775807 := by show (w ++ [32]).length + t.length ≤ _; rw [List.length_append]; simp only [List.length_singleton]; omega
    have gl : (w ++ [32] ++ t).length ≤ 40 := by rw [List.length_append, List.length_append]; simp only [List.length_singleton]; omega
    by_cases hf : x.fld = []
    · have hne : (!(x.fld == ([] : List UInt8))) = false := by rw [hf]; rfl
      rw [if_pos hf]
      (refine LWP.seq <| LWP.region (by kernel_rfl) <| K.box rfl rfl rfl .plain <| kas rfl <| RunK.nil <| LWP.seq <| LWP.region (by kernel_rfl) <| kfa rfl rfl ?_; refine kl1 rfl rfl rfl <| kca rfl rfl hW <| kas rfl <| RunK.nil <| LWP.seq <| LWP.seq <| LWP.region (by kernel_rfl) <| kmv rfl <| kse rfl rfl (strs_eq (r := false) hwe) <| RunK.nil <| LWP.condF rfl ?_; refine LWP.skip ?_; refine LWP.seq <| LWP.region (by kernel_rfl) <| kmv rfl <| K.strAdd rfl rfl g1 (str_add w [32]) .plain <| kfa rfl rfl ?_; refine kl1 rfl rfl rfl <| kca rfl rfl hD <| K.strAdd rfl rfl g2 (str_add (w ++ [32]) t) .plain <| kas rfl <| RunK.nil <| LWP.seq <| LWP.seq <| LWP.region (by kernel_rfl) <| kfa rfl rfl ?_; refine kl1 rfl rfl rfl <| K.strNe rfl rfl (strs_ne (r := false) hne) .plain <| RunK.nil <| LWP.condF rfl ?_; refine LWP.skip ?_; refine LWP.seq <| LWP.region (by kernel_rfl) <| kmv rfl <| kas rfl <| RunK.nil <| LWP.ret ?_)
      exact ⟨[_], ⟨rfl, trivial⟩, rfl⟩
    · have hne : (!(x.fld == ([] : List UInt8))) = true := by rw [beq_eq_false_iff_ne.2 hf]; rfl
      rw [if_neg hf]
      have g3 : (⟨([32] : List UInt8).toArray⟩ : ByteArray).size + (⟨x.fld.toArray⟩ : ByteArray).size ≤ 9223372036854775807 := by show 1 + x.fld.length ≤ _; omega
      have g4 : (⟨(w ++ [32] ++ t).toArray⟩ : ByteArray).size + (⟨([32] ++ x.fld).toArray⟩ : ByteArray).size ≤ 9223372036854775807 := by show (w ++ [32] ++ t).length + ([32] ++ x.fld).length ≤ _; rw [List.length_append (bs := x.fld)]; simp only [List.length_singleton]; omega
      (refine LWP.seq <| LWP.region (by kernel_rfl) <| K.box rfl rfl rfl .plain <| kas rfl <| RunK.nil <| LWP.seq <| LWP.region (by kernel_rfl) <| kfa rfl rfl ?_; refine kl1 rfl rfl rfl <| kca rfl rfl hW <| kas rfl <| RunK.nil <| LWP.seq <| LWP.seq <| LWP.region (by kernel_rfl) <| kmv rfl <| kse rfl rfl (strs_eq (r := false) hwe) <| RunK.nil <| LWP.condF rfl ?_; refine LWP.skip ?_; refine LWP.seq <| LWP.region (by kernel_rfl) <| kmv rfl <| K.strAdd rfl rfl g1 (str_add w [32]) .plain <| kfa rfl rfl ?_; refine kl1 rfl rfl rfl <| kca rfl rfl hD <| K.strAdd rfl rfl g2 (str_add (w ++ [32]) t) .plain <| kas rfl <| RunK.nil <| LWP.seq <| LWP.seq <| LWP.region (by kernel_rfl) <| kfa rfl rfl ?_; refine kl1 rfl rfl rfl <| K.strNe rfl rfl (strs_ne (r := true) hne) .plain <| RunK.nil <| LWP.condT rfl ?_; refine LWP.region (by kernel_rfl) <| kmv rfl <| kfa rfl rfl ?_; refine kl1 rfl rfl rfl <| K.strAdd rfl rfl g3 (str_add [32] x.fld) .plain <| K.strAdd rfl rfl g4 (str_add (w ++ [32] ++ t) ([32] ++ x.fld)) .plain <| kas rfl <| RunK.nil <| LWP.seq <| LWP.region (by kernel_rfl) <| kmv rfl <| kas rfl <| RunK.nil <| LWP.ret ?_)
      exact ⟨[_], ⟨rfl, trivial⟩, rfl⟩
theorem dLine (hT : DTab X) (x : Ch) (h0 : -9223372036854775808 ≤ x.comp) (h1 : x.comp < 9223372036854775808) (hfl : x.fld.length ≤ 4611686018427387904) : PSpec Tryd.prog X 16 [Hx x] (Ls (lineT x)) :=
  dLineI X x h0 h1 hfl (itoa_spec X hT x.comp h0 h1)
theorem dLineS (x : Ch) (h0 : 0 ≤ x.comp) (h1 : x.comp < 100) (hfl : x.fld.length ≤ 4611686018427387904) : PSpec Tryd.prog X 16 [Hx x] (Ls (lineT x)) := by
  refine dLineI X x (by omega) (by omega) hfl ?_
  have h := itoa_small X x.comp.toNat (by omega)
  rw [show ((x.comp.toNat : Nat) : Int) = x.comp by omega] at h
  exact h
section
variable (a b : Sc) (ad bd : Option Addr) (ca cb : Nat) (ha : CompsIn X ad a.cs) (hb : CompsIn X bd b.cs) (hsa : Small9 a.cs) (hsb : Small9 b.cs) (hna : NamesC a.cs) (hnb : NamesC b.cs)
include ha hb hsa hsb hna hnb
theorem dLines_no (h : chkAB a b ≠ 0) : MSpec Tryd.prog X 11 [Sx a.ver ad a.cs.length ca, Sx b.ver bd b.cs.length cb] [] (.tup [.one (.val (.slice none 0 0)), Sn .i64 (chkAB a b)]) [] := by
  refine MSpec.intro Tryd.func11 rfl (by kernel_rfl) rfl rfl rfl rfl rfl ?_
  intro C
  have hq := dOf_no X a b ad bd ca cb ha hb hsa hsb hna hnb h
  generalize chkAB a b = e at *
  (refine LWP.seq <| LWP.region (by kernel_rfl) <| K.box rfl rfl rfl .plain <| K.box rfl rfl rfl .plain <| kas rfl <| kas rfl <| RunK.nil <| LWP.seq <| LWP.region (by kernel_rfl) <| K.loadAll rfl rfl rfl .plain ?_; refine K.loadAll rfl rfl rfl .plain ?_; refine K.callM [] [] (hq) rfl rfl (by exact trivial) rfl rfl rfl rfl rfl (by exact .nil) .plain <| kmv rfl <| kex rfl rfl <| kex rfl rfl <| kas rfl <| kas rfl <| RunK.nil <| LWP.seq <| LWP.seq <| LWP.region (by kernel_rfl) <| kmv rfl <| kne rfl rfl (r := true) (by rw [bne_iff_ne]; exact h) <| RunK.nil <| LWP.condT rfl ?_; refine LWP.seq <| LWP.region (by kernel_rfl) <| kmv rfl <| kas rfl <| kas rfl <| RunK.nil <| LWP.ret ?_)
  exact ⟨[], ⟨[_, _], ⟨rfl, rfl, trivial⟩, rfl⟩, (by repeat' (first | exact trivial | refine And.intro ⟨_, rfl, ?_⟩ ?_ | refine And.intro ⟨_, rfl⟩ ?_ | rfl | exact Box.ren_bytes _ _ _ _ | exact Box.ren_vals _ _ _ _ | exact Box.ren_mid rfl)), rfl, rfl⟩
abbrev dlSt (L : List Ch) (i : Nat) (Y : Nat → Option Obj) : St := ⟨[(8, .sv (.one (.slc 22 0 L.length 1))), (23, .sv (.one (.slc 600 0 L.length 3))), (24, Ln .i64 (L.length : Nat)), (25, Ln .i64 (i : Nat))], [(22, some ⟨9, (Col.txV ((L.take i).map lineT) ++ List.replicate (L.length - i) (Value.string ⟨#[]⟩)).map .val, false⟩), dhB 600 L], Y⟩
set_option maxHeartbeats 1600000 in
theorem dLines_ok (h : chkAB a b = 0) : MSpec Tryd.prog X 11 [Sx a.ver ad a.cs.length ca, Sx b.ver bd b.cs.length cb] [] (.tup [.one (.slc 1000001 0 (diffL a.cs b.cs).length 1), Sn .i64 0]) [lnB 1000001 ((diffL a.cs b.cs).map lineT)] := by
  refine MSpec.intro Tryd.func11 rfl (by kernel_rfl) rfl rfl (by exact (by repeat' (first | refine all_cons_true ?_ ?_ | rfl | exact bytes_inUse | exact vals_inUse | exact mid_inUse rfl))) rfl rfl ?_
  intro C
  have hq := dOf_ok X a b ad bd ca cb ha hb hsa hsb hna hnb h
  obtain ⟨h1, h2⟩ := chkAB_zero.1 h
  have hup := up_len hsa.2 hsb.2 24
  rw [show upD a.cs b.cs 24 = diffL a.cs b.cs from rfl] at hup
  have hx : ∀ x ∈ diffL a.cs b.cs, 0 ≤ x.comp ∧ x.comp < 100 ∧ x.fld.length ≤ 4611686018427387904 := fun x hx => by
    have g1 := diff_comps hx
    have g2 := diff_fld (n := 255) (chk_flds h1) (chk_flds h2) hx
    omega
  generalize diffL a.cs b.cs = L at *
  have hmk : slcBuild Tryd.prog 32 L.length = some (List.replicate L.length (.string ⟨#[]⟩), 1, 9) := slcBuild_one (by kernel_rfl) (by kernel_rfl) (by omega)
  refine LWP.ends ?_
  (refine LWP.seq <| LWP.region (by kernel_rfl) <| K.box rfl rfl rfl .plain <| K.box rfl rfl rfl .plain <| kas rfl <| kas rfl <| RunK.nil <| LWP.seq <| LWP.region (by kernel_rfl) <| K.loadAll rfl rfl rfl .plain ?_; refine K.loadAll rfl rfl rfl .plain ?_; refine K.callMp [(1000001, 600)] (.tup [.one (.slc 600 0 L.length 3), Sn .i64 0]) [dhB 600 L] (hq) rfl rfl (by exact trivial) rfl rfl rfl rfl rfl (by exact (.box rfl (Box.ren_vals _ _ _ _) .nil)) .plain <| kmv rfl <| kex rfl rfl <| kex rfl rfl <| kas rfl <| kas rfl <| RunK.nil <| LWP.seq <| LWP.seq <| LWP.region (by kernel_rfl) <| kmv rfl <| kne rfl rfl (r := false) rfl <| RunK.nil <| LWP.condF rfl ?_; refine LWP.skip ?_; refine LWP.seq <| LWP.region (by kernel_rfl) <| kmv rfl <| K.lenSlc rfl SliceT.h rfl .plain ?_; refine K.makeSlc (m := L.length) (bytes := 16) rfl rfl hmk (by kernel_rfl) (by omega) rfl rfl .plain <| kas rfl <| RunK.nil <| LWP.seq <| LWP.seq <| LWP.region (by kernel_rfl) <| kmv rfl <| K.lenSlc rfl SliceT.h rfl .plain ?_; refine kmv rfl <| RunK.nil <| LWP.block ?_)
  refine LWP.loop (fun m σ => ∃ i : Nat, i ≤ L.length ∧ m = L.length - i ∧ σ = dlSt L i X) L.length
    ⟨dlSt L 0 X, Le.of (by exact ⟨rfl, rfl, rfl, rfl, trivial⟩) (by exact ⟨rfl, rfl, trivial⟩) (by exact rfl) (by exact rfl) (by repeat' (first | refine all_cons_true ?_ ?_ | rfl | exact bytes_inUse | exact vals_inUse | exact mid_inUse rfl)), 0, by omega, by omega, rfl⟩ ?_
  rintro m σ ⟨i, hi, rfl, rfl⟩
  by_cases hlt : i < L.length
  · obtain ⟨x, hxi⟩ : ∃ x, L[i]? = some x := ⟨_, List.getElem?_eq_getElem hlt⟩
    obtain ⟨k0, k1, kf⟩ := hx x (List.mem_of_getElem? hxi)
    have hq := dLineS X x k0 k1 kf
    obtain ⟨_, _, _, g4, g5⟩ := chV_at hxi
    have g4 : (((chV L).map CV.val).drop (i * 3)).take 3 = [.val (.int .i64 x.kind), .val (.int .i64 x.comp), .val (.string ⟨x.fld.toArray⟩)] := g4
    have hix : 0 + Int.toNat (i : Int) * 1 = i := by rw [Int.toNat_natCast]; omega
    have hix3 : 0 + Int.toNat (i : Int) * 3 = i * 3 := by rw [Int.toNat_natCast]; omega
    have hpl : (Col.txV ((L.take i).map lineT)).length = i := by rw [Col.txV_len, List.length_map, List.length_take]; omega
    have hroom : i + 1 ≤ ((Col.txV ((L.take i).map lineT) ++ List.replicate (L.length - i) (Value.string ⟨#[]⟩)).map CV.val).length := by rw [List.length_map, List.length_append, hpl, List.length_replicate]; omega
    have hspl : splice ((Col.txV ((L.take i).map lineT) ++ List.replicate (L.length - i) (Value.string ⟨#[]⟩)).map CV.val) i [.val (.string ⟨(lineT x).toArray⟩)] = (Col.txV ((L.take (i + 1)).map lineT) ++ List.replicate (L.length - (i + 1)) (Value.string ⟨#[]⟩)).map CV.val := by
      rw [take_snoc hxi, show L.length - i = (L.length - (i + 1)) + 1 by omega, List.replicate_succ, show Col.txV ((L.take i ++ [x]).map lineT) = Col.txV ((L.take i).map lineT) ++ [.string ⟨(lineT x).toArray⟩] by unfold Col.txV; simp]
      unfold splice
      simp only [List.map_append, List.append_assoc]
      have hml : ((Col.txV ((L.take i).map lineT)).map CV.val).length = i := by rw [List.length_map, hpl]
      generalize (Col.txV ((L.take i).map lineT)).map CV.val = R at *
      rw [← hml, List.take_left, List.drop_length_add_append]
      simp
    generalize lineT x = y at *
    (refine LWP.seq <| LWP.region (by kernel_rfl) <| klt rfl rfl (decide_eq_true (by omega)) <| RunK.nil <| LWP.seq <| LWP.condT rfl ?_; refine LWP.skip ?_; refine LWP.seq <| LWP.block <| LWP.seq <| LWP.region (by kernel_rfl) <| kmv rfl <| K.indexSlc rfl rfl (by omega) hix3 .plain ?_; refine K.loadPart rfl rfl (Nat.ble_eq_true_of_le g5) g4 .plain ?_; refine K.alloc rfl .plain ?_; refine kas rfl <| K.storeAll rfl rfl rfl rfl rfl rfl .plain ?_; refine RunK.nil <| LWP.region (by kernel_rfl) <| kmv rfl <| kmv rfl <| K.loadAll rfl rfl rfl .plain ?_; refine kca rfl rfl hq <| K.indexSlc rfl rfl (by omega) hix .plain ?_; refine K.store rfl rfl rfl rfl (by kernel_rfl) hroom hspl .plain <| RunK.nil <| LWP.region (by kernel_rfl) <| kad rfl rfl (wrap_i64 (by omega)) <| kmv rfl <| RunK.nil ?_)
    exact ⟨_, dlSt L (i + 1) X, by omega, Le.of (by exact ⟨rfl, rfl, rfl, rfl, trivial⟩) (by exact ⟨rfl, rfl, trivial⟩) (by exact rfl) (by exact rfl) (by repeat' (first | refine all_cons_true ?_ ?_ | rfl | exact bytes_inUse | exact vals_inUse | exact mid_inUse rfl)), i + 1, by omega, rfl, rfl⟩
  · have e : i = L.length := by omega
    subst e
    unfold dlSt
    rw [List.take_length, Nat.sub_self, List.replicate_zero, List.append_nil]
    (refine LWP.seq <| LWP.region (by kernel_rfl) <| klt rfl rfl (decide_eq_false (by omega)) <| RunK.nil <| LWP.seq <| LWP.condF rfl ?_; refine LWP.exit <| LWP.seq <| LWP.region (by kernel_rfl) <| kmv rfl <| kas rfl <| kas rfl <| RunK.nil <| LWP.ret ?_)
    refine Leads.le (σ' := ⟨[(4, .sv (.one (.slc 22 0 L.length 1))), (5, Ln .i64 0)], [(22, some ⟨9, (Col.txV (L.map lineT)).map .val, false⟩)], X⟩) (Le.of (by exact ⟨rfl, rfl, trivial⟩) (by exact ⟨rfl, trivial⟩) (by exact rfl) (by exact rfl) (by repeat' (first | refine all_cons_true ?_ ?_ | rfl | exact bytes_inUse | exact vals_inUse | exact mid_inUse rfl))) ?_
    refine Leads.le Le.loose (Leads.done ?_)
    exact ⟨[(1000001, 22)], ⟨[_, _], ⟨rfl, rfl, trivial⟩, rfl⟩, (by repeat' (first | exact trivial | refine And.intro ⟨_, rfl, ?_⟩ ?_ | refine And.intro ⟨_, rfl⟩ ?_ | rfl | exact Box.ren_bytes _ _ _ _ | exact Box.ren_vals _ _ _ _ | exact Box.ren_mid rfl)), rfl, rfl⟩
end
end Go.Proofs.YtfcaebhofjjjnaaDoor
end
section
namespace Go.Proofs.YtfcaebhofjjjnaaDoor
open Go Go.Lg Go.Lg.Fld
set_option maxRecDepth 100000
variable (X : Nat → Option Obj)
section
variable (a b : Sc) (ad bd : Option Addr) (ca cb : Nat) (ha : CompsIn X ad a.cs) (hb : CompsIn X bd b.cs) (hsa : Small9 a.cs) (hsb : Small9 b.cs) (hna : NamesC a.cs) (hnb : NamesC b.cs)
include ha hb hsa hsb hna hnb
theorem dKept_no (h : chkAB a b ≠ 0) : MSpec Tryd.prog X 12 [Sx a.ver ad a.cs.length ca, Sx b.ver bd b.cs.length cb] [] (.sv (.one (.val (.slice none 0 0)))) [] := by
  refine MSpec.intro Tryd.func12 rfl (by kernel_rfl) rfl rfl rfl rfl rfl ?_
  intro C
  have hq := dCheckBoth X a b ad bd ca cb ha hb hsa hsb hna hnb
  generalize chkAB a b = e at *
  (refine LWP.seq <| LWP.region (by kernel_rfl) <| K.box rfl rfl rfl .plain <| K.box rfl rfl rfl .plain <| kas rfl <| RunK.nil <| LWP.seq <| LWP.seq <| LWP.region (by kernel_rfl) <| K.loadAll rfl rfl rfl .plain ?_; refine K.loadAll rfl rfl rfl .plain ?_; refine kca rfl rfl hq <| kne rfl rfl (r := true) (by rw [bne_iff_ne]; exact h) <| RunK.nil <| LWP.condT rfl ?_; refine LWP.seq <| LWP.region (by kernel_rfl) <| kas rfl <| RunK.nil <| LWP.ret ?_)
  exact ⟨[], ⟨[_], ⟨rfl, trivial⟩, rfl⟩, (by repeat' (first | exact trivial | refine And.intro ⟨_, rfl, ?_⟩ ?_ | refine And.intro ⟨_, rfl⟩ ?_ | rfl | exact Box.ren_bytes _ _ _ _ | exact Box.ren_vals _ _ _ _ | exact Box.ren_mid rfl)), rfl, rfl⟩
abbrev dkSt (cs : List Cp) (vb : Int) (bd : Option Addr) (nb cb : Nat) (l : List Int) (r : Bool) (i : Nat) (more : List (Nat × LV)) (Y : Nat → Option Obj) : St := ⟨(3, Lp 3) :: (5, .sv (.one (.slc 500 0 l.length 1))) :: (16, .sv (.one (.slc 600 0 cs.length 1))) :: (17, Ln .i64 (cs.length : Nat)) :: (18, Ln .i64 (i : Nat)) :: more, [(500, some ⟨3, (intV l).map .val, r⟩), (600, some ⟨3, (idsV cs).map .val, false⟩), sxB 3 vb bd nb cb], Y⟩
set_option maxHeartbeats 1600000 in
theorem dKept_ok (h : chkAB a b = 0) : MSpec Tryd.prog X 12 [Sx a.ver ad a.cs.length ca, Sx b.ver bd b.cs.length cb] [] (.sv (.one (.slc 1000001 0 (keptL a.cs b.cs).length 1))) [kpB 1000001 (keptL a.cs b.cs)] := by
  refine MSpec.intro Tryd.func12 rfl (by kernel_rfl) rfl rfl (by exact (by repeat' (first | refine all_cons_true ?_ ?_ | rfl | exact bytes_inUse | exact vals_inUse | exact mid_inUse rfl))) rfl rfl ?_
  intro C
  have hck := dCheckBoth X a b ad bd ca cb ha hb hsa hsb hna hnb
  rw [h] at hck
  have hI := pIds X a.ver ad ca a.cs ha (by have := hsa.1; omega)
  have hbl := hsa.1
  have hrl : ∀ l : List Int, ((intV l).map CV.val).length = l.length * 1 := fun l => by unfold intV; rw [List.length_map, List.length_map, Nat.mul_one]
  have hnl : ∀ (l : List Int) (x : Int), l.length + 1 = (l ++ [x]).length := fun l x => by rw [List.length_append]; rfl
  have hnc : ∀ (l : List Int) (x : Int), (intV l).map CV.val ++ [.val (.int .i64 x)] = (intV (l ++ [x])).map CV.val := fun l x => by unfold intV; simp
  refine LWP.ends ?_
  (refine LWP.seq <| LWP.region (by kernel_rfl) <| K.box rfl rfl rfl .plain <| K.box rfl rfl rfl .plain <| kas rfl <| RunK.nil <| LWP.seq <| LWP.seq <| LWP.region (by kernel_rfl) <| K.loadAll rfl rfl rfl .plain ?_; refine K.loadAll rfl rfl rfl .plain ?_; refine kca rfl rfl hck <| kne rfl rfl (r := false) rfl <| RunK.nil <| LWP.condF rfl ?_; refine LWP.skip ?_; refine LWP.seq <| LWP.region (by kernel_rfl) <| K.buildSlc (zs := []) (sz := 1) (e := 3) (by kernel_rfl) rfl rfl rfl rfl rfl rfl .plain <| kas rfl <| RunK.nil <| LWP.seq <| LWP.seq <| LWP.region (by kernel_rfl) <| K.loadAll rfl rfl rfl .plain ?_; refine K.callMp [(1000001, 600)] (.sv (.one (.slc 600 0 a.cs.length))) [(600, some ⟨3, (idsV a.cs).map .val, false⟩)] (hI) rfl rfl (by exact trivial) rfl rfl rfl rfl rfl (by exact (.box rfl (Box.ren_vals _ _ _ _) .nil)) .plain <| K.lenSlc rfl SliceT.h rfl .plain ?_; refine kmv rfl <| RunK.nil <| LWP.block ?_)
  refine LWP.loop (fun m σ => ∃ (i : Nat) (r : Bool), i ≤ a.cs.length ∧ m = a.cs.length - i ∧ σ = dkSt a.cs b.ver bd b.cs.length cb (((a.cs.take i).filter fun c => (atId b.cs c.id).isSome).map Cp.id) r i [] X) a.cs.length
    ⟨dkSt a.cs b.ver bd b.cs.length cb [] false 0 [] X, Le.ofR [(500, 14)] (by exact ⟨rfl, rfl, rfl, rfl, rfl, trivial⟩) (by repeat' (first | exact trivial | refine And.intro ⟨_, rfl, ?_⟩ ?_ | refine And.intro ⟨_, rfl⟩ ?_ | rfl | exact Box.ren_bytes _ _ _ _ | exact Box.ren_vals _ _ _ _ | exact Box.ren_mid rfl)) (by exact rfl) (by exact rfl) (by repeat' (first | refine all_cons_true ?_ ?_ | rfl | exact bytes_inUse | exact vals_inUse | exact mid_inUse rfl)) (by exact rfl) (by exact rfl), 0, false, by omega, by omega, rfl⟩ ?_
  rintro m σ ⟨i, r, hi, rfl, rfl⟩
  by_cases hlt : i < a.cs.length
  · obtain ⟨c, hc⟩ : ∃ c, a.cs[i]? = some c := ⟨_, List.getElem?_eq_getElem hlt⟩
    have hsn := filter_snoc hc (fun c => (atId b.cs c.id).isSome) Cp.id
    have hix : 0 + Int.toNat (i : Int) * 1 = i := by rw [Int.toNat_natCast]; omega
    have hcv : ((idsV a.cs).map CV.val)[i]? = some (.val (.int .i64 c.id)) := by unfold idsV; rw [List.getElem?_map, List.getElem?_map, hc]; rfl
    have hlm : (((a.cs.take i).filter fun c => (atId b.cs c.id).isSome).map Cp.id).length ≤ 30 := by
      have h1 := List.length_filter_le (fun c : Cp => (atId b.cs c.id).isSome) (a.cs.take i)
      rw [List.length_take] at h1
      rw [List.length_map]; omega
    generalize ((a.cs.take i).filter fun c => (atId b.cs c.id).isSome).map Cp.id = l at *
    obtain ⟨d, h2, _, f2, v2⟩ := findD X b.ver bd cb b.cs c.id hb hsb
    (refine LWP.seq <| LWP.region (by kernel_rfl) <| klt rfl rfl (decide_eq_true (by omega)) <| RunK.nil <| LWP.seq <| LWP.condT rfl ?_; refine LWP.skip ?_; refine LWP.seq <| LWP.block <| LWP.seq <| LWP.region (by kernel_rfl) <| K.indexSlc rfl rfl (by omega) hix .plain ?_; refine kl1 rfl rfl hcv <| kas rfl <| RunK.nil <| LWP.seq ?_)
    repeat refine LWP.seq ?_
    refine LWP.meetL (fun σ => σ = dkSt a.cs b.ver bd b.cs.length cb l r i [(7, Ln .i64 c.id), (9, Lb h2)] X) ?_ ?_
    · rcases f2 with ⟨_, p1⟩ | p1
      · (refine LWP.region (by kernel_rfl) <| K.loadAll rfl rfl rfl .plain ?_; refine kmv rfl <| kca rfl rfl p1 <| kmv rfl <| kex rfl rfl <| kex rfl rfl <| K.alloc rfl .plain ?_; refine K.storeAll rfl rfl rfl rfl rfl rfl .plain ?_; refine kas rfl <| RunK.nil ?_)
        exact Leads.here (Le.of (by exact ⟨rfl, rfl, rfl, rfl, rfl, rfl, rfl, trivial⟩) (by exact ⟨rfl, rfl, rfl, trivial⟩) (by exact rfl) (by exact rfl) (by repeat' (first | refine all_cons_true ?_ ?_ | rfl | exact bytes_inUse | exact vals_inUse | exact mid_inUse rfl))) rfl
      · (refine LWP.region (by kernel_rfl) <| K.loadAll rfl rfl rfl .plain ?_; refine kmv rfl <| K.callMp [(1000001, 200)] (.tup [SCs d 200, Sb h2]) [fdB 200 d.fs] (p1) rfl rfl (by exact trivial) rfl rfl rfl rfl rfl (by exact (.box rfl (Box.ren_vals _ _ _ _) .nil)) .plain <| kmv rfl <| kex rfl rfl <| kex rfl rfl <| K.alloc rfl .plain ?_; refine K.storeAll rfl rfl rfl rfl rfl rfl .plain ?_; refine kas rfl <| RunK.nil ?_)
        exact Leads.here (Le.of (by exact ⟨rfl, rfl, rfl, rfl, rfl, rfl, rfl, trivial⟩) (by exact ⟨rfl, rfl, rfl, trivial⟩) (by exact rfl) (by exact rfl) (by repeat' (first | refine all_cons_true ?_ ?_ | rfl | exact bytes_inUse | exact vals_inUse | exact mid_inUse rfl))) rfl
    rintro σ rfl
    rcases v2 with ⟨rfl, z2⟩ | ⟨rfl, z2⟩
    · simp only [z2] at hsn
      rw [if_pos (show (some d).isSome = true from rfl)] at hsn
      (refine LWP.seq <| LWP.region (by kernel_rfl) <| kmv rfl <| RunK.nil <| LWP.condT rfl ?_; refine LWP.region (by kernel_rfl) <| kmv rfl <| kmv rfl <| K.buildSlc (zs := [Value.int .i64 0]) (sz := 1) (e := 3) (cs' := [.val (.int .i64 c.id)]) (by kernel_rfl) rfl rfl rfl rfl rfl rfl .plain <| K.appendSlc (by_ := 8) (e2 := 3) (l2 := [.val (.int .i64 c.id)]) (nl := (l ++ [c.id]).length) (nc := (intV (l ++ [c.id])).map .val) rfl rfl (hrl l) rfl rfl (Nat.le_refl _) rfl rfl (by kernel_rfl) (by kernel_rfl) (by omega) (by omega) rfl (hnl l _) (hnc l _) .plain <| kas rfl <| RunK.nil <| LWP.region (by kernel_rfl) <| kad rfl rfl (wrap_i64 (by omega)) <| kmv rfl <| RunK.nil ?_)
      exact ⟨_, dkSt a.cs b.ver bd b.cs.length cb (l ++ [c.id]) true (i + 1) [] X, by omega, Le.ofR [(500, 32)] (by exact ⟨rfl, rfl, rfl, rfl, rfl, trivial⟩) (by repeat' (first | exact trivial | refine And.intro ⟨_, rfl, ?_⟩ ?_ | refine And.intro ⟨_, rfl⟩ ?_ | rfl | exact Box.ren_bytes _ _ _ _ | exact Box.ren_vals _ _ _ _ | exact Box.ren_mid rfl)) (by exact rfl) (by exact rfl) (by repeat' (first | refine all_cons_true ?_ ?_ | rfl | exact bytes_inUse | exact vals_inUse | exact mid_inUse rfl)) (by exact rfl) (by exact rfl), i + 1, true, by omega, rfl, by rw [hsn]⟩
    · simp only [z2] at hsn
      rw [if_neg (show ¬((none : Option Cp).isSome = true) by decide), List.append_nil] at hsn
      (refine LWP.seq <| LWP.region (by kernel_rfl) <| kmv rfl <| RunK.nil <| LWP.condF rfl ?_; refine LWP.skip ?_; refine LWP.region (by kernel_rfl) <| kad rfl rfl (wrap_i64 (by omega)) <| kmv rfl <| RunK.nil ?_)
      exact ⟨_, dkSt a.cs b.ver bd b.cs.length cb l r (i + 1) [] X, by omega, Le.of (by exact ⟨rfl, rfl, rfl, rfl, rfl, trivial⟩) (by exact ⟨rfl, rfl, rfl, trivial⟩) (by exact rfl) (by exact rfl) (by repeat' (first | refine all_cons_true ?_ ?_ | rfl | exact bytes_inUse | exact vals_inUse | exact mid_inUse rfl)), i + 1, r, by omega, rfl, by rw [hsn]⟩
  · have e : i = a.cs.length := by omega
    subst e
    unfold dkSt
    rw [List.take_length, show (a.cs.filter fun c => (atId b.cs c.id).isSome).map Cp.id = keptL a.cs b.cs from rfl]
    generalize keptL a.cs b.cs = l at *
    (refine LWP.seq <| LWP.region (by kernel_rfl) <| klt rfl rfl (decide_eq_false (by omega)) <| RunK.nil <| LWP.seq <| LWP.condF rfl ?_; refine LWP.exit <| LWP.seq <| LWP.region (by kernel_rfl) <| kmv rfl <| kas rfl <| RunK.nil <| LWP.ret ?_)
    refine Leads.le (σ' := ⟨[(4, .sv (.one (.slc 500 0 l.length 1)))], [(500, some ⟨3, (intV l).map .val, r⟩)], X⟩) (Le.of (by exact ⟨rfl, trivial⟩) (by exact ⟨rfl, trivial⟩) (by exact rfl) (by exact rfl) (by repeat' (first | refine all_cons_true ?_ ?_ | rfl | exact bytes_inUse | exact vals_inUse | exact mid_inUse rfl))) ?_
    refine Leads.le Le.loose (Leads.done ?_)
    exact ⟨[(1000001, 500)], ⟨[_], ⟨rfl, trivial⟩, rfl⟩, (by repeat' (first | exact trivial | refine And.intro ⟨_, rfl, ?_⟩ ?_ | refine And.intro ⟨_, rfl⟩ ?_ | rfl | exact Box.ren_bytes _ _ _ _ | exact Box.ren_vals _ _ _ _ | exact Box.ren_mid rfl)), rfl, rfl⟩
end
end Go.Proofs.YtfcaebhofjjjnaaDoor
end
section
namespace Go.Proofs.YtfcaebhofjjjnaaDoor
open Go Go.Lg Go.Lg.Fld
set_option maxRecDepth 100000
variable (X : Nat → Option Obj)
theorem great9_spec (ver : Int) (ad : Option Addr) (cap : Nat) (cs : List Cp) (hin : CompsIn X ad cs) (r : Bool) (hr : greatB9 cs = r) : PSpec Tryd.prog X 8 [Sx ver ad cs.length cap] (Lb r) := by
  subst hr
  refine PSpec.intro Tryd.func8 rfl (by kernel_rfl) rfl rfl ?_
  intro C
  by_cases hn : 30 < cs.length
  · rw [show greatB9 cs = true by unfold greatB9; rw [decide_eq_true hn]; rfl]
    (refine LWP.seq <| LWP.region (by kernel_rfl) <| K.box rfl rfl rfl .plain <| kas rfl <| RunK.nil <| LWP.seq <| LWP.seq <| LWP.region (by kernel_rfl) <| kfa rfl rfl ?_; refine kl1 rfl rfl rfl <| K.lenX rfl SliceT.h rfl .plain ?_; refine K.gtr rfl rfl (decide_eq_true (by omega)) .plain <| RunK.nil <| LWP.condT rfl ?_; refine LWP.seq <| LWP.region (by kernel_rfl) <| kas rfl <| RunK.nil <| LWP.ret ?_)
    exact ⟨[_], ⟨rfl, trivial⟩, rfl⟩
  (refine LWP.seq <| LWP.region (by kernel_rfl) <| K.box rfl rfl rfl .plain <| kas rfl <| RunK.nil <| LWP.seq <| LWP.seq <| LWP.region (by kernel_rfl) <| kfa rfl rfl ?_; refine kl1 rfl rfl rfl <| K.lenX rfl SliceT.h rfl .plain ?_; refine K.gtr rfl rfl (decide_eq_false (by omega)) .plain <| RunK.nil <| LWP.condF rfl ?_; refine LWP.skip ?_; refine LWP.seq <| LWP.seq <| LWP.region (by kernel_rfl) <| kas rfl <| RunK.nil <| LWP.block ?_)
  refine LWP.loop (fun m σ => ∃ i : Nat, i ≤ cs.length ∧ m = cs.length - i ∧ (∀ (j : Nat) (y : Cp), j < i → cs[j]? = some y → decide (12 < y.fs.length) = false) ∧ σ = ⟨[(1, Lp 1), (3, Ln .i64 (i : Nat))], [sxB 1 ver ad cs.length cap], X⟩) cs.length
    ⟨_, Le.of (by exact ⟨rfl, rfl, trivial⟩) (by exact ⟨rfl, trivial⟩) (by exact rfl) (by exact rfl) (by repeat' (first | refine all_cons_true ?_ ?_ | rfl | exact bytes_inUse | exact vals_inUse | exact mid_inUse rfl)), 0, by omega, by omega, fun j y hj => absurd hj (by omega), rfl⟩ ?_
  rintro m σ ⟨i, hi, rfl, hpre, rfl⟩
  by_cases hlt : i < cs.length
  · obtain ⟨c, hc⟩ : ∃ c, cs[i]? = some c := ⟨_, List.getElem?_eq_getElem hlt⟩
    obtain ⟨blk, off, arr, el, fr, fad, fcap, rfl, hX, hsz, hcs, g1, g2, g3, hF⟩ := hin.get hc
    have hio : off + Int.toNat (i : Int) * 3 = off + i * 3 := by simp
    by_cases h1 : 12 < c.fs.length
    · rw [show greatB9 cs = true by unfold greatB9; rw [any_at hc (by exact decide_eq_true h1), Bool.or_true]]
      (refine LWP.seq <| LWP.seq <| LWP.region (by kernel_rfl) <| kmv rfl <| kfa rfl rfl ?_; refine kl1 rfl rfl rfl <| K.lenX rfl SliceT.h rfl .plain ?_; refine klt rfl rfl (decide_eq_true (by omega)) <| RunK.nil <| LWP.condT rfl ?_; refine LWP.skip ?_; refine LWP.seq <| LWP.block <| LWP.seq <| LWP.region (by kernel_rfl) <| kfa rfl rfl ?_; refine kl1 rfl rfl rfl <| kmv rfl <| K.indexX rfl rfl SliceT.h (by omega) hio .plain <| K.fieldAddrX rfl rfl .plain ?_; refine K.loadX rfl hX rfl g3 .plain <| K.lenX rfl SliceT.h rfl .plain ?_; refine K.gtr rfl rfl (decide_eq_true (by omega)) .plain <| RunK.nil <| LWP.condT rfl ?_; refine LWP.seq <| LWP.region (by kernel_rfl) <| kas rfl <| RunK.nil <| LWP.ret ?_)
      exact ⟨[_], ⟨rfl, trivial⟩, rfl⟩
    · (refine LWP.seq <| LWP.seq <| LWP.region (by kernel_rfl) <| kmv rfl <| kfa rfl rfl ?_; refine kl1 rfl rfl rfl <| K.lenX rfl SliceT.h rfl .plain ?_; refine klt rfl rfl (decide_eq_true (by omega)) <| RunK.nil <| LWP.condT rfl ?_; refine LWP.skip ?_; refine LWP.seq <| LWP.block <| LWP.seq <| LWP.region (by kernel_rfl) <| kfa rfl rfl ?_; refine kl1 rfl rfl rfl <| kmv rfl <| K.indexX rfl rfl SliceT.h (by omega) hio .plain <| K.fieldAddrX rfl rfl .plain ?_; refine K.loadX rfl hX rfl g3 .plain <| K.lenX rfl SliceT.h rfl .plain ?_; refine K.gtr rfl rfl (decide_eq_false (by omega)) .plain <| RunK.nil <| LWP.condF rfl ?_; refine LWP.skip ?_; refine LWP.region (by kernel_rfl) <| kmv rfl <| kad rfl rfl (wrap_i64 (by omega)) <| kas rfl <| RunK.nil ?_)
      exact ⟨_, _, by omega, Le.of (by exact ⟨rfl, rfl, trivial⟩) (by exact ⟨rfl, trivial⟩) (by exact rfl) (by exact rfl) (by repeat' (first | refine all_cons_true ?_ ?_ | rfl | exact bytes_inUse | exact vals_inUse | exact mid_inUse rfl)), i + 1, by omega, rfl, (fun j y hj hy => by
        by_cases e : j = i
        · subst e
          rw [hc] at hy
          cases hy
          exact decide_eq_false h1
        · exact hpre j y (by omega) hy), rfl⟩
  · rw [show greatB9 cs = false by unfold greatB9; rw [decide_eq_false hn, any_no fun j y hy => hpre j y (by have := (List.getElem?_eq_some_iff.1 hy).1; omega) hy]; rfl]
    (refine LWP.seq <| LWP.seq <| LWP.region (by kernel_rfl) <| kmv rfl <| kfa rfl rfl ?_; refine kl1 rfl rfl rfl <| K.lenX rfl SliceT.h rfl .plain ?_; refine klt rfl rfl (decide_eq_false (by omega)) <| RunK.nil <| LWP.condF rfl ?_; refine LWP.exit <| LWP.seq <| LWP.region (by kernel_rfl) <| kas rfl <| RunK.nil <| LWP.ret ?_)
    exact ⟨[_], ⟨rfl, trivial⟩, rfl⟩
end Go.Proofs.YtfcaebhofjjjnaaDoor
end
section
namespace Go.Lg.Fld
open Go Go.Lg
theorem itoa_one {n : Nat} (h : n < 10) : Lib.itoa (n : Int) = [UInt8.ofNat (48 + n)] := by
  unfold Lib.itoa
  rw [if_neg (by omega), show (n : Int).toNat = n from rfl, Lib.decDigits_one h]
theorem no_comps (Y : Nat → Option Obj) : CompsIn Y none [] := ⟨fun i c h => by simp at h, fun c h => by cases h⟩
end Go.Lg.Fld
namespace Go.Proofs.YtfcaebhofjjjnaaDoor
open Go Go.Lg Go.Lg.Fld
set_option maxRecDepth 100000
abbrev fa9 : List Fl := [⟨[120], 6, 1⟩]
abbrev fb9 : List Fl := [⟨[120], 6, 1⟩, ⟨[121], 6, 1⟩]
abbrev ca9 : List Cp := [⟨2, [104, 112], fa9⟩]
abbrev cb9 : List Cp := [⟨2, [104, 112], fb9⟩, ⟨3, [109, 112], []⟩]
theorem fs9_in {fs : List Fl} (h : fs = fa9 ∨ fs = fb9 ∨ fs = []) : fs.length ≤ 12 ∧ ∀ f ∈ fs, f.nm.length = 1 ∧ f.kind = 6 ∧ f.count = 1 := by
  rcases h with rfl | rfl | rfl
  · refine ⟨by decide, fun f hf => ?_⟩
    rw [List.mem_singleton.1 hf]; exact ⟨rfl, rfl, rfl⟩
  · refine ⟨by decide, fun f hf => ?_⟩
    simp only [List.mem_cons, List.not_mem_nil, or_false] at hf
    rcases hf with rfl | rfl <;> exact ⟨rfl, rfl, rfl⟩
  · exact ⟨by decide, fun f hf => by cases hf⟩
theorem cs9_in {cs : List Cp} (h : cs = ca9 ∨ cs = cb9 ∨ cs = []) : cs.length ≤ 2 ∧ ∀ c ∈ cs, (c.id = 2 ∨ c.id = 3) ∧ c.nm.length = 2 ∧ (c.fs = fa9 ∨ c.fs = fb9 ∨ c.fs = []) := by
  rcases h with rfl | rfl | rfl
  · refine ⟨by decide, fun c hc => ?_⟩
    rw [List.mem_singleton.1 hc]; exact ⟨.inl rfl, rfl, .inl rfl⟩
  · refine ⟨by decide, fun c hc => ?_⟩
    simp only [List.mem_cons, List.not_mem_nil, or_false] at hc
    rcases hc with rfl | rfl
    · exact ⟨.inl rfl, rfl, .inr (.inl rfl)⟩
    · exact ⟨.inr rfl, rfl, .inr (.inr rfl)⟩
  · exact ⟨by decide, fun c hc => by cases hc⟩
theorem cs9_small {cs : List Cp} (h : cs = ca9 ∨ cs = cb9 ∨ cs = []) : Small9 cs := by
  obtain ⟨h1, h2⟩ := cs9_in h
  exact ⟨by omega, fun c hc => (fs9_in (h2 c hc).2.2).1⟩
theorem cs9_names {cs : List Cp} (h : cs = ca9 ∨ cs = cb9 ∨ cs = []) : NamesC cs := fun c hc => by
  obtain ⟨_, h3, h4⟩ := (cs9_in h).2 c hc
  obtain ⟨h5, h6⟩ := fs9_in h4
  exact ⟨by omega, by omega, fun f hf => by have := (h6 f hf).1; omega⟩
theorem cs9_inb {cs : List Cp} (h : cs = ca9 ∨ cs = cb9 ∨ cs = []) : InB cs := by
  intro c hc
  obtain ⟨h2, h3, h4⟩ := (cs9_in h).2 c hc
  refine ⟨by rcases h2 with e | e <;> (rw [e]; decide), fun f hf => ?_⟩
  obtain ⟨_, e1, e2⟩ := (fs9_in h4).2 f hf
  rw [e1, e2]; decide
theorem df9 : diffL ca9 cb9 = [⟨5, 2, [121]⟩, ⟨1, 3, []⟩] := by decide +kernel
theorem df9s : diffL ca9 ca9 = [] := by decide +kernel
theorem kp9 : keptL ca9 cb9 = [2] := by decide +kernel
theorem ln9 : ([⟨5, 2, [121]⟩, ⟨1, 3, []⟩] : List Ch).map lineT = [[102, 105, 101, 108, 100, 97, 100, 100, 101, 100, 32, 50, 32, 121], [97, 100, 100, 101, 100, 32, 51]] := by
  have h2 := itoa_one (n := 2) (by decide)
  have h3 := itoa_one (n := 3) (by decide)
  simp only [List.map_cons, List.map_nil, lineT]
  rw [show (2 : Int) = ((2 : Nat) : Int) from rfl, show (3 : Int) = ((3 : Nat) : Int) from rfl, h2, h3]
  decide
theorem ck9 : chkAB ⟨1, ca9⟩ ⟨2, cb9⟩ = 0 ∧ chkAB ⟨1, ca9⟩ ⟨1, ca9⟩ = 0 ∧ chkAB ⟨0, []⟩ ⟨2, cb9⟩ = 1 := by decide +kernel
variable (X : Nat → Option Obj)
set_option maxHeartbeats 6400000 in
theorem awake9_spec : PSpec Tryd.prog X 7 [] (Lb true) := by
  refine PSpec.intro Tryd.func7 rfl (by kernel_rfl) rfl rfl ?_
  intro C
  (refine LWP.seq <| LWP.region (by kernel_rfl) <| kas rfl <| RunK.nil <| LWP.seq <| LWP.region (by kernel_rfl) <| K.build rfl rfl (by exact rfl) (by exact nl3 rfl rfl rfl rfl) .plain ?_; refine K.alloc rfl .plain ?_; refine K.storeAll rfl rfl rfl rfl rfl rfl .plain ?_; refine RunK.nil <| LWP.seq <| LWP.region (by kernel_rfl) <| K.build rfl rfl (by exact rfl) (by exact nl3 rfl rfl rfl rfl) .plain ?_; refine K.alloc rfl .plain ?_; refine K.storeAll rfl rfl rfl rfl rfl rfl .plain ?_; refine RunK.nil <| LWP.seq <| LWP.region (by kernel_rfl) <| K.loadAll rfl rfl rfl .plain ?_; refine K.buildSlc (zs := [Value.string ⟨#[]⟩, .int .i64 0, .int .i64 0]) (sz := 3) (e := 53) (cs' := (flV fa9).map .val) (by kernel_rfl) rfl rfl rfl rfl rfl rfl .plain <| K.build rfl rfl (by exact rfl) (by exact nl3 rfl rfl rfl rfl) .plain ?_; refine K.buildSlc (zs := [Value.int .i64 0, .string ⟨#[]⟩, .slice none 0 0]) (sz := 3) (e := 46) (cs' := [.val (.int .i64 2), .val (.string ⟨#[104, 112]⟩), .slc 15 0 1 3]) (by kernel_rfl) rfl rfl rfl rfl rfl rfl .plain <| K.build rfl rfl (by exact rfl) (by exact nl2 rfl rfl rfl) .plain ?_; refine K.alloc rfl .plain ?_; refine K.storeAll rfl rfl rfl rfl rfl rfl .plain ?_; refine RunK.nil <| LWP.seq <| LWP.region (by kernel_rfl) <| K.loadAll rfl rfl rfl .plain ?_; refine K.loadAll rfl rfl rfl .plain ?_; refine K.buildSlc (zs := (List.replicate 2 [Value.string ⟨#[]⟩, .int .i64 0, .int .i64 0]).flatten) (sz := 3) (e := 53) (cs' := (flV fb9).map .val) (by kernel_rfl) rfl rfl rfl rfl rfl rfl .plain <| K.build rfl rfl (by exact rfl) (by exact nl3 rfl rfl rfl rfl) .plain ?_; refine K.build rfl rfl (by exact rfl) (by exact nl3 rfl rfl rfl rfl) .plain ?_; refine K.buildSlc (zs := (List.replicate 2 [Value.int .i64 0, .string ⟨#[]⟩, .slice none 0 0]).flatten) (sz := 3) (e := 46) (cs' := [.val (.int .i64 2), .val (.string ⟨#[104, 112]⟩), .slc 21 0 2 3, .val (.int .i64 3), .val (.string ⟨#[109, 112]⟩), .val (.slice none 0 0)]) (by kernel_rfl) rfl rfl rfl rfl rfl rfl .plain <| K.build rfl rfl (by exact rfl) (by exact nl2 rfl rfl rfl) .plain ?_; refine K.alloc rfl .plain ?_; refine K.storeAll rfl rfl rfl rfl rfl rfl .plain ?_; refine RunK.nil <| LWP.seq ?_)
  refine LWP.le (σ' := ⟨[(3, Lp 3), (4, Lp 4)], [(17, some ⟨46, [.val (.int .i64 2), .val (.string ⟨#[104, 112]⟩)] ++ .slc 15 0 1 3 :: [], false⟩), (15, some ⟨53, (flV fa9).map .val, false⟩), (3, some ⟨24, [.val (.int .i64 1), .slc 17 0 1 3], false⟩), (24, some ⟨46, [.val (.int .i64 2), .val (.string ⟨#[104, 112]⟩), .slc 21 0 2 3, .val (.int .i64 3), .val (.string ⟨#[109, 112]⟩), .val (.slice none 0 0)], false⟩), (21, some ⟨53, (flV fb9).map .val, false⟩), (4, some ⟨24, [.val (.int .i64 2), .slc 24 0 2 3], false⟩)], X⟩) (Le.of (by exact ⟨rfl, rfl, trivial⟩) (by exact ⟨rfl, rfl, rfl, rfl, rfl, rfl, trivial⟩) (by exact rfl) (by exact rfl) (by repeat' (first | refine all_cons_true ?_ ?_ | rfl | exact bytes_inUse | exact vals_inUse | exact mid_inUse rfl))) ?_
  refine LWP.freezeCell rfl rfl rfl rfl rfl rfl fun b1 c1 a1 f1 n1 _ k1 k2 hs1 => ?_
  refine LWP.le (σ' := ⟨[(3, Lp 3), (4, Lp 4)], [(3, some ⟨24, [.val (.int .i64 1)] ++ .slc 17 0 1 3 :: [], false⟩), (17, some ⟨46, (rowsZ ca9 [.slice (some ⟨b1, 0, none⟩) 1 c1]).map .val, false⟩), (24, some ⟨46, [.val (.int .i64 2), .val (.string ⟨#[104, 112]⟩), .slc 21 0 2 3, .val (.int .i64 3), .val (.string ⟨#[109, 112]⟩), .val (.slice none 0 0)], false⟩), (21, some ⟨53, (flV fb9).map .val, false⟩), (4, some ⟨24, [.val (.int .i64 2), .slc 24 0 2 3], false⟩)], withBlock X b1 (.cells a1 53 f1)⟩) ?_ ?_
  · exact Le.same ⟨fun _ => rfl, fun j => look_swap rfl, rfl⟩
  refine LWP.freezeCell rfl rfl rfl rfl rfl rfl fun b2 c2 a2 f2 n2 _ g1 g2 hs2 => ?_
  have hinA : CompsIn (withBlock (withBlock X b1 (.cells a1 53 f1)) b2 (.cells a2 46 f2)) (some ⟨b2, 0, none⟩) ca9 := by
    obtain ⟨sp1, e1⟩ := hs1
    obtain ⟨sp2, e2⟩ := hs2
    refine comps_block (fel := 53) (cells := [.slice (some ⟨b1, 0, none⟩) 1 c1]) (withBlock_at _ _ _) e2 rfl (cs9_inb (.inl rfl)) fun i c v hc hv => ?_
    match i, hc, hv with
    | 0, hc, hv =>
      simp only [List.getElem?_cons_zero, Option.some.injEq] at hc hv
      subst hc hv
      exact .inr ⟨b1, ⟨1, c1, a1, f1, rfl, rfl, k1, by omega, withBlock_old n2 _ _ (withBlock_at _ _ _), sp1, e1⟩, fun e => by cases e⟩
    | _ + 1, hc, hv => simp at hv
  generalize withBlock (withBlock X b1 (.cells a1 53 f1)) b2 (.cells a2 46 f2) = Z at *
  clear n1 n2 hs1 hs2
  refine LWP.le (σ' := ⟨[(3, Lp 3), (4, Lp 4)], [(24, some ⟨46, [.val (.int .i64 2), .val (.string ⟨#[104, 112]⟩)] ++ .slc 21 0 2 3 :: [.val (.int .i64 3), .val (.string ⟨#[109, 112]⟩), .val (.slice none 0 0)], false⟩), (21, some ⟨53, (flV fb9).map .val, false⟩), (3, some ⟨24, [.val (.int .i64 1)] ++ .val (.slice (some ⟨b2, 0, none⟩) 1 c2) :: [], false⟩), (4, some ⟨24, [.val (.int .i64 2), .slc 24 0 2 3], false⟩)], Z⟩) ?_ ?_
  · exact Le.same ⟨fun _ => rfl, fun j => (look_rot rfl rfl).symm, rfl⟩
  refine LWP.freezeCell rfl rfl rfl rfl rfl rfl fun b3 c3 a3 f3 n3 _ k3 k4 hs3 => ?_
  refine LWP.le (σ' := ⟨[(3, Lp 3), (4, Lp 4)], [(4, some ⟨24, [.val (.int .i64 2)] ++ .slc 24 0 2 3 :: [], false⟩), (24, some ⟨46, (rowsZ cb9 [.slice (some ⟨b3, 0, none⟩) 2 c3, .slice none 0 0]).map .val, false⟩), (3, some ⟨24, [.val (.int .i64 1)] ++ .val (.slice (some ⟨b2, 0, none⟩) 1 c2) :: [], false⟩)], withBlock Z b3 (.cells a3 53 f3)⟩) ?_ ?_
  · exact Le.same ⟨fun _ => rfl, fun j => look_rot rfl rfl, rfl⟩
  refine LWP.freezeCell rfl rfl rfl rfl rfl rfl fun b4 c4 a4 f4 n4 _ g3 g4 hs4 => ?_
  have hinB : CompsIn (withBlock (withBlock Z b3 (.cells a3 53 f3)) b4 (.cells a4 46 f4)) (some ⟨b4, 0, none⟩) cb9 := by
    obtain ⟨sp1, e1⟩ := hs3
    obtain ⟨sp2, e2⟩ := hs4
    refine comps_block (fel := 53) (cells := [.slice (some ⟨b3, 0, none⟩) 2 c3, .slice none 0 0]) (withBlock_at _ _ _) e2 rfl (cs9_inb (.inr (.inl rfl))) fun i c v hc hv => ?_
    match i, hc, hv with
    | 0, hc, hv =>
      simp only [List.getElem?_cons_zero, Option.some.injEq] at hc hv
      subst hc hv
      exact .inr ⟨b3, ⟨2, c3, a3, f3, rfl, rfl, k3, by omega, withBlock_old n4 _ _ (withBlock_at _ _ _), sp1, e1⟩, fun e => by cases e⟩
    | 1, hc, hv =>
      simp only [List.getElem?_cons_succ, List.getElem?_cons_zero, Option.some.injEq] at hc hv
      subst hc hv
      exact .inl ⟨rfl, none, 0, rfl⟩
    | _ + 2, hc, hv => simp at hv
  replace hinA := hinA.mono (Y := withBlock (withBlock Z b3 (.cells a3 53 f3)) b4 (.cells a4 46 f4)) fun b o h => withBlock_old n4 b o (withBlock_old n3 b o h)
  generalize withBlock (withBlock Z b3 (.cells a3 53 f3)) b4 (.cells a4 46 f4) = W at *
  have p1 := dLines_ok W ⟨1, ca9⟩ ⟨2, cb9⟩ _ _ c2 c4 hinA hinB (cs9_small (.inl rfl)) (cs9_small (.inr (.inl rfl))) (cs9_names (.inl rfl)) (cs9_names (.inr (.inl rfl))) ck9.1
  have p2 := dOf_ok W ⟨1, ca9⟩ ⟨1, ca9⟩ _ _ c2 c2 hinA hinA (cs9_small (.inl rfl)) (cs9_small (.inl rfl)) (cs9_names (.inl rfl)) (cs9_names (.inl rfl)) ck9.2.1
  have p3 := dOf_no W ⟨0, []⟩ ⟨2, cb9⟩ _ _ 0 c4 (no_comps W) hinB (cs9_small (.inr (.inr rfl))) (cs9_small (.inr (.inl rfl))) (cs9_names (.inr (.inr rfl))) (cs9_names (.inr (.inl rfl))) (by rw [ck9.2.2]; decide)
  have p4 := dKept_ok W ⟨1, ca9⟩ ⟨2, cb9⟩ _ _ c2 c4 hinA hinB (cs9_small (.inl rfl)) (cs9_small (.inr (.inl rfl))) (cs9_names (.inl rfl)) (cs9_names (.inr (.inl rfl))) ck9.1
  simp only [df9, ln9] at p1
  rw [ck9.2.2] at p3
  simp only [kp9] at p4
  simp only [df9s] at p2
  ((refine LWP.region (by kernel_rfl) <| K.loadAll rfl rfl rfl .plain ?_; refine K.loadAll rfl rfl rfl .plain ?_; refine K.callMp [(1000001, 600)] (.tup [.one (.slc 600 0 2 1), Sn .i64 0]) [lnB 600 [[102, 105, 101, 108, 100, 97, 100, 100, 101, 100, 32, 50, 32, 121], [97, 100, 100, 101, 100, 32, 51]]] (p1) rfl rfl (by exact trivial) rfl rfl rfl rfl rfl (by exact (.box rfl rfl .nil)) .plain <| kmv rfl <| kex rfl rfl <| kex rfl rfl <| kas rfl <| kas rfl <| RunK.nil <| LWP.seq <| LWP.region (by kernel_rfl) <| K.loadAll rfl rfl rfl .plain ?_; refine K.loadAll rfl rfl rfl .plain ?_; refine K.callMp [(1000001, 602)] (.tup [.one (.slc 602 0 0 3), Sn .i64 0]) [dhB 602 []] (p2) rfl rfl (by exact trivial) rfl rfl rfl rfl rfl (by exact (.box rfl rfl .nil)) .plain <| kmv rfl <| kex rfl rfl <| kex rfl rfl <| kas rfl <| kas rfl <| RunK.nil <| LWP.seq <| LWP.region (by kernel_rfl) <| K.build rfl rfl (by exact rfl) (by exact nl2 rfl rfl rfl) .plain ?_; refine K.loadAll rfl rfl rfl .plain ?_; refine K.callM [] [] (p3) rfl rfl (by exact trivial) rfl rfl rfl rfl rfl (by exact .nil) .plain <| kmv rfl <| kex rfl rfl <| kex rfl rfl <| kas rfl <| kas rfl <| RunK.nil <| LWP.seq <| LWP.region (by kernel_rfl) <| K.loadAll rfl rfl rfl .plain ?_; refine K.loadAll rfl rfl rfl .plain ?_; refine K.callMp [(1000001, 601)] (.sv (.one (.slc 601 0 1 1))) [kpB 601 [2]] (p4) rfl rfl (by exact trivial) rfl rfl rfl rfl rfl (by exact (.box rfl rfl .nil)) .plain <| kas rfl <| RunK.nil <| LWP.seq <| LWP.region (by kernel_rfl) <| kmv rfl <| keq rfl rfl (beq_iff_eq.2 (by omega)) <| kmv rfl <| gmv rfl rfl rfl <| K.lenSlc rfl SliceT.h rfl (.taken rfl rfl) ?_; refine K.eql rfl rfl (beq_iff_eq.2 (by omega)) (.taken rfl rfl) ?_; refine kpt rfl rfl <| kmv rfl <| gmv rfl rfl rfl <| K.indexSlc rfl rfl (by omega) rfl (.taken rfl rfl) ?_; refine K.loadOne rfl rfl rfl (.taken rfl rfl) ?_); (refine K.strEq rfl rfl (strs_eq (r := true) (by decide)) (.taken rfl rfl) ?_; refine kpt rfl rfl <| kmv rfl <| gmv rfl rfl rfl <| K.indexSlc rfl rfl (by omega) rfl (.taken rfl rfl) ?_; refine K.loadOne rfl rfl rfl (.taken rfl rfl) ?_; refine K.strEq rfl rfl (strs_eq (r := true) (by decide)) (.taken rfl rfl) ?_; refine kpt rfl rfl <| kmv rfl <| gmv rfl rfl rfl <| K.eql rfl rfl (beq_iff_eq.2 (by omega)) (.taken rfl rfl) ?_; refine kpt rfl rfl <| kmv rfl <| gmv rfl rfl rfl <| K.lenSlc rfl SliceT.h rfl (.taken rfl rfl) ?_; refine K.eql rfl rfl (beq_iff_eq.2 (by omega)) (.taken rfl rfl) ?_; refine kpt rfl rfl <| kmv rfl <| gmv rfl rfl rfl <| K.eql rfl rfl (beq_iff_eq.2 (by omega)) (.taken rfl rfl) ?_; refine kpt rfl rfl <| kmv rfl <| gmv rfl rfl rfl <| K.lenSlc rfl SliceT.h rfl (.taken rfl rfl) ?_; refine K.eql rfl rfl (beq_iff_eq.2 (by omega)) (.taken rfl rfl) ?_; refine kpt rfl rfl <| kmv rfl <| gmv rfl rfl rfl <| K.indexSlc rfl rfl (by omega) rfl (.taken rfl rfl) ?_; refine K.loadOne rfl rfl rfl (.taken rfl rfl) ?_); (refine K.eql rfl rfl (beq_iff_eq.2 (by omega)) (.taken rfl rfl) ?_; refine kpt rfl rfl <| kas rfl <| RunK.nil <| LWP.ret ?_))
  exact ⟨[_], ⟨rfl, trivial⟩, rfl⟩
end Go.Proofs.YtfcaebhofjjjnaaDoor
end
section
namespace Go.Lg.Fld
open Go Go.Lg
def ofL (a b : Sc) : List Ch := if chkAB a b = 0 then diffL a.cs b.cs else []
def keptA (a b : Sc) : List Int := if chkAB a b = 0 then keptL a.cs b.cs else []
def ChIn (X : Nat → Option Obj) (ad : Option Addr) (l : List Ch) : Prop := RowsIn X ad 3 (l.map Ch.vals)
def TxIn (X : Nat → Option Obj) (ad : Option Addr) (l : List (List UInt8)) : Prop := RowsIn X ad 1 (l.map fun t => [.string ⟨t.toArray⟩])
def IntIn (X : Nat → Option Obj) (ad : Option Addr) (l : List Int) : Prop := RowsIn X ad 1 (l.map fun n => [.int .i64 n])
theorem ChIn.at {X : Nat → Option Obj} {ad : Option Addr} {l : List Ch} (h : ChIn X ad l) {i : Nat} {x : Ch} (hx : l[i]? = some x) : ∃ (blk off : Nat) (arr : Array Value) (el : TypeId) (fr : Nat × Nat), ad = some ⟨blk, off, none⟩ ∧ X blk = some (.cells arr el fr) ∧
    arr[off + i * 3]? = some (.int .i64 x.kind) ∧ arr[off + i * 3 + 1]? = some (.int .i64 x.comp) ∧ arr[off + i * 3 + 2]? = some (.string ⟨x.fld.toArray⟩) := by
  obtain ⟨blk, off, arr, el, fr, h1, h2, h3, h4⟩ := h i x.vals (by rw [List.getElem?_map, hx]; rfl)
  exact ⟨blk, off, arr, el, fr, h1, h2, three_at h4⟩
theorem one_at {arr : Array Value} {p : Nat} {a : Value} (h : (arr.toList.drop p).take 1 = [a]) : arr[p]? = some a := by
  have := congrArg (fun l : List Value => l[0]?) h
  simpa [List.getElem?_take, List.getElem?_drop] using this
theorem TxIn.at {X : Nat → Option Obj} {ad : Option Addr} {l : List (List UInt8)} (h : TxIn X ad l) {i : Nat} {x : List UInt8} (hx : l[i]? = some x) : ∃ (blk off : Nat) (arr : Array Value) (el : TypeId) (fr : Nat × Nat), ad = some ⟨blk, off, none⟩ ∧ X blk = some (.cells arr el fr) ∧ arr[off + i * 1]? = some (.string ⟨x.toArray⟩) := by
  obtain ⟨blk, off, arr, el, fr, h1, h2, h3, h4⟩ := h i [.string ⟨x.toArray⟩] (by rw [List.getElem?_map, hx]; rfl)
  exact ⟨blk, off, arr, el, fr, h1, h2, one_at h4⟩
theorem IntIn.at {X : Nat → Option Obj} {ad : Option Addr} {l : List Int} (h : IntIn X ad l) {i : Nat} {x : Int} (hx : l[i]? = some x) : ∃ (blk off : Nat) (arr : Array Value) (el : TypeId) (fr : Nat × Nat), ad = some ⟨blk, off, none⟩ ∧ X blk = some (.cells arr el fr) ∧ arr[off + i * 1]? = some (.int .i64 x) := by
  obtain ⟨blk, off, arr, el, fr, h1, h2, h3, h4⟩ := h i [.int .i64 x] (by rw [List.getElem?_map, hx]; rfl)
  exact ⟨blk, off, arr, el, fr, h1, h2, one_at h4⟩
theorem map_one {α β : Type} (f : α → β) (l : List α) : (l.map fun x => [f x]).flatten = l.map f := by
  induction l with
  | nil => rfl
  | cons x t ih => rw [List.map_cons, List.flatten_cons, ih]; rfl
theorem ch_frozen {X : Nat → Option Obj} {blk : Nat} {arr : Array Value} {el : TypeId} {fr : Nat × Nat} {l : List Ch} (h : ∃ sp, arr.toList = chV l ++ sp) : ChIn (withBlock X blk (.cells arr el fr)) (some ⟨blk, 0, none⟩) l :=
  rows_frozen (fun r hr => by obtain ⟨x, _, rfl⟩ := List.mem_map.1 hr; rfl) h
theorem tx_frozen {X : Nat → Option Obj} {blk : Nat} {arr : Array Value} {el : TypeId} {fr : Nat × Nat} {l : List (List UInt8)} (h : ∃ sp, arr.toList = Col.txV l ++ sp) : TxIn (withBlock X blk (.cells arr el fr)) (some ⟨blk, 0, none⟩) l :=
  rows_frozen (fun r hr => by obtain ⟨x, _, rfl⟩ := List.mem_map.1 hr; rfl) (by rw [map_one]; exact h)
theorem int_frozen {X : Nat → Option Obj} {blk : Nat} {arr : Array Value} {el : TypeId} {fr : Nat × Nat} {l : List Int} (h : ∃ sp, arr.toList = intV l ++ sp) : IntIn (withBlock X blk (.cells arr el fr)) (some ⟨blk, 0, none⟩) l :=
  rows_frozen (fun r hr => by obtain ⟨x, _, rfl⟩ := List.mem_map.1 hr; rfl) (by rw [map_one]; exact h)
theorem rows_none {X : Nat → Option Obj} {ad : Option Addr} {sz : Nat} {rows : List (List Value)} (h : rows = []) : RowsIn X ad sz rows := fun i r hr => by rw [h] at hr; simp at hr
theorem ChIn.mono {X Y : Nat → Option Obj} {ad : Option Addr} {l : List Ch} (h : ChIn X ad l) (hm : ∀ b o, X b = some o → Y b = some o) : ChIn Y ad l := RowsIn.mono h hm
theorem TxIn.mono {X Y : Nat → Option Obj} {ad : Option Addr} {l : List (List UInt8)} (h : TxIn X ad l) (hm : ∀ b o, X b = some o → Y b = some o) : TxIn Y ad l := RowsIn.mono h hm
theorem NamesIn.names {cs : List Cp} (h : NamesIn cs) (hs : Small9 cs) : NamesC cs := fun c hc => by
  obtain ⟨h1, h2⟩ := h c hc
  exact ⟨by have := hs.2 c hc; omega, h1, h2⟩
end Go.Lg.Fld
namespace Go.Proofs.YtfcaebhofjjjnaaDoor
open Go Go.Lg Go.Lg.Fld
set_option maxRecDepth 100000
variable (X : Nat → Option Obj)
section
variable (a b : Sc) (ad bd : Option Addr) (ca cb : Nat) (ha : CompsIn X ad a.cs) (hb : CompsIn X bd b.cs) (hsa : Small9 a.cs) (hsb : Small9 b.cs) (hna : NamesC a.cs) (hnb : NamesC b.cs)
include ha hb hsa hsb hna hnb
theorem of_both : (ofL a b = [] ∧ MSpec Tryd.prog X 10 [Sx a.ver ad a.cs.length ca, Sx b.ver bd b.cs.length cb] [] (.tup [.one (.val (.slice none 0 0)), Sn .i64 (chkAB a b)]) []) ∨
    MSpec Tryd.prog X 10 [Sx a.ver ad a.cs.length ca, Sx b.ver bd b.cs.length cb] [] (.tup [.one (.slc 1000001 0 (ofL a b).length 3), Sn .i64 (chkAB a b)]) [dhB 1000001 (ofL a b)] := by
  unfold ofL
  by_cases h : chkAB a b = 0
  · rw [if_pos h]
    exact .inr (by rw [h]; exact dOf_ok X a b ad bd ca cb ha hb hsa hsb hna hnb h)
  · rw [if_neg h]
    exact .inl ⟨rfl, dOf_no X a b ad bd ca cb ha hb hsa hsb hna hnb h⟩
theorem lines_both : (ofL a b = [] ∧ MSpec Tryd.prog X 11 [Sx a.ver ad a.cs.length ca, Sx b.ver bd b.cs.length cb] [] (.tup [.one (.val (.slice none 0 0)), Sn .i64 (chkAB a b)]) []) ∨
    MSpec Tryd.prog X 11 [Sx a.ver ad a.cs.length ca, Sx b.ver bd b.cs.length cb] [] (.tup [.one (.slc 1000001 0 (ofL a b).length 1), Sn .i64 (chkAB a b)]) [lnB 1000001 ((ofL a b).map lineT)] := by
  unfold ofL
  by_cases h : chkAB a b = 0
  · rw [if_pos h]
    exact .inr (by rw [h]; exact dLines_ok X a b ad bd ca cb ha hb hsa hsb hna hnb h)
  · rw [if_neg h]
    exact .inl ⟨rfl, dLines_no X a b ad bd ca cb ha hb hsa hsb hna hnb h⟩
theorem kept_both : (keptA a b = [] ∧ MSpec Tryd.prog X 12 [Sx a.ver ad a.cs.length ca, Sx b.ver bd b.cs.length cb] [] (.sv (.one (.val (.slice none 0 0)))) []) ∨
    MSpec Tryd.prog X 12 [Sx a.ver ad a.cs.length ca, Sx b.ver bd b.cs.length cb] [] (.sv (.one (.slc 1000001 0 (keptA a b).length 1))) [kpB 1000001 (keptA a b)] := by
  unfold keptA
  by_cases h : chkAB a b = 0
  · rw [if_pos h]
    exact .inr (dKept_ok X a b ad bd ca cb ha hb hsa hsb hna hnb h)
  · rw [if_neg h]
    exact .inl ⟨rfl, dKept_no X a b ad bd ca cb ha hb hsa hsb hna hnb h⟩
end
abbrev d2St (a b : Sc) (ad bd : Option Addr) (ca cb : Nat) (more : List (Nat × LV)) (bx : List (Nat × Option Box)) (Y : Nat → Option Obj) : St := ⟨(2, Lp 2) :: (3, Lp 3) :: more, bx ++ [sxB 2 a.ver ad a.cs.length ca, sxB 3 b.ver bd b.cs.length cb], Y⟩
abbrev Vs (ad : Option Addr) (n cap : Nat) : LV := .sv (.one (.val (.slice ad n cap)))
theorem DiffLines_spec (hT : DTab X) (k c : Int) (f : List UInt8) (h0 : -9223372036854775808 ≤ c) (h1 : c < 9223372036854775808) :
    PSpec Tryd.prog X 4 [Ln .i64 k, Ln .i64 c, Ls f] (Lb true) := by
  have hW := awake9_spec X
  refine PSpec.intro Tryd.func4 rfl (by kernel_rfl) rfl rfl ?_
  intro C
  have hlen : (⟨f.toArray⟩ : ByteArray).size = f.length := rfl
  by_cases hf : 100 < f.length
  · (refine LWP.seq <| LWP.region (by kernel_rfl) <| kas rfl <| RunK.nil <| LWP.seq <| LWP.seq <| LWP.region (by kernel_rfl) <| kca rfl rfl (hW) <| K.not rfl rfl .plain <| RunK.nil <| LWP.condF rfl ?_; refine LWP.skip ?_; refine LWP.seq <| LWP.region (by kernel_rfl) <| kmv rfl <| kln rfl <| K.gtr rfl rfl (decide_eq_true (by rw [hlen]; omega)) .plain <| kmv rfl <| RunK.passed rfl rfl rfl <| RunK.passed rfl rfl rfl <| RunK.passed rfl rfl rfl <| RunK.passed rfl rfl rfl <| RunK.passed rfl rfl rfl <| RunK.passed rfl rfl rfl <| RunK.passed rfl rfl rfl <| RunK.passed rfl rfl rfl ?_; refine RunK.passed rfl rfl rfl <| RunK.passed rfl rfl rfl <| RunK.passed rfl rfl rfl <| kpt rfl rfl <| kas rfl <| RunK.nil <| LWP.ret ?_)
    exact ⟨[_], ⟨rfl, trivial⟩, rfl⟩
  · have p1 := dLine X hT ⟨k, c, f⟩ h0 h1 (by show f.length ≤ 4611686018427387904; omega)
    have p2 := rLine_spec X ⟨k, c, f⟩ h0 h1 (by show f.length ≤ 4611686018427387904; omega)
    (refine LWP.seq <| LWP.region (by kernel_rfl) <| kas rfl <| RunK.nil <| LWP.seq <| LWP.seq <| LWP.region (by kernel_rfl) <| kca rfl rfl (hW) <| K.not rfl rfl .plain <| RunK.nil <| LWP.condF rfl ?_; refine LWP.skip ?_; refine LWP.seq <| LWP.region (by kernel_rfl) <| kmv rfl <| kln rfl <| K.gtr rfl rfl (decide_eq_false (by rw [hlen]; omega)) .plain <| kmv rfl <| gmv rfl rfl rfl <| gmv rfl rfl rfl <| gmv rfl rfl rfl <| K.build rfl rfl (by exact rfl) (by exact nl3 rfl rfl rfl rfl) (.taken rfl rfl) ?_; refine gca rfl rfl p1 rfl rfl <| gmv rfl rfl rfl <| gmv rfl rfl rfl <| gmv rfl rfl rfl <| K.build rfl rfl (by exact rfl) (by exact nl3 rfl rfl rfl rfl) (.taken rfl rfl) ?_; refine gca rfl rfl p2 rfl rfl <| K.strEq rfl rfl (strs_eq (r := true) (by simp)) (.taken rfl rfl) ?_; refine kpf rfl rfl <| kas rfl <| RunK.nil <| LWP.ret ?_)
    exact ⟨[_], ⟨rfl, trivial⟩, rfl⟩
end Go.Proofs.YtfcaebhofjjjnaaDoor
end
section
namespace Go.Lg.Fld
open Go Go.Lg
def keptN (a b : List Cp) (i : Nat) : Nat := ((a.take i).filter fun c => (atId b c.id).isSome).length
theorem keptN_succ {a b : List Cp} {i : Nat} {c : Cp} (hc : a[i]? = some c) : keptN a b (i + 1) = keptN a b i + if (atId b c.id).isSome = true then 1 else 0 := by
  unfold keptN
  rw [take_snoc hc, List.filter_append, List.length_append]
  congr 1
  by_cases h : (atId b c.id).isSome = true
  · simp [h]
  · simp [h]
theorem keptN_all (a b : List Cp) : keptN a b a.length = (keptL a b).length := by
  unfold keptN keptL
  rw [List.take_length, List.length_map]
theorem keptN_at {a b : List Cp} {i : Nat} {c : Cp} (hc : a[i]? = some c) (h : (atId b c.id).isSome = true) : (keptL a b)[keptN a b i]? = some c.id := by
  have hs : a = a.take i ++ c :: a.drop (i + 1) := by
    obtain ⟨hi, e⟩ := List.getElem?_eq_some_iff.1 hc
    rw [← e, ← List.drop_eq_getElem_cons hi, List.take_append_drop]
  unfold keptL keptN
  generalize hp : (fun c : Cp => (atId b c.id).isSome) = p
  have hpc : p c = true := by rw [← hp]; exact h
  have e : a.filter p = (a.take i).filter p ++ c :: (a.drop (i + 1)).filter p := by
    conv => lhs; rw [hs]
    rw [List.filter_append, List.filter_cons_of_pos hpc]
  rw [e, List.map_append, List.map_cons, List.getElem?_append_right (by rw [List.length_map]; exact Nat.le_refl _), List.length_map, Nat.sub_self]
  rfl
end Go.Lg.Fld
namespace Go.Proofs.YtfcaebhofjjjnaaDoor
open Go Go.Lg Go.Lg.Fld
set_option maxRecDepth 100000
variable (X : Nat → Option Obj)
set_option maxHeartbeats 12800000 in
theorem DiffExact_spec (a b : Sc) (ad bd : Option Addr) (ca cb : Nat) (ha : CompsIn X ad a.cs) (hb : CompsIn X bd b.cs) (hNa : NamesIn a.cs) (hNb : NamesIn b.cs) :
    PSpec Tryd.prog X 3 [Sx a.ver ad a.cs.length ca, Sx b.ver bd b.cs.length cb] (Lb true) := by
  have hW := awake9_spec X
  have g1 := great9_spec X a.ver ad ca a.cs ha (greatB9 a.cs) rfl
  have g2 := great9_spec X b.ver bd cb b.cs hb (greatB9 b.cs) rfl
  refine PSpec.intro Tryd.func3 rfl (by kernel_rfl) rfl rfl ?_
  intro C
  cases hg : greatB9 a.cs with
  | true =>
    rw [hg] at g1
    (refine LWP.seq <| LWP.region (by kernel_rfl) <| K.box rfl rfl rfl .plain <| K.box rfl rfl rfl .plain <| kas rfl <| RunK.nil <| LWP.seq <| LWP.seq <| LWP.region (by kernel_rfl) <| kca rfl rfl (hW) <| K.not rfl rfl .plain <| RunK.nil <| LWP.condF rfl ?_; refine LWP.skip ?_; refine LWP.seq <| LWP.seq <| LWP.region (by kernel_rfl) <| K.loadAll rfl rfl rfl .plain ?_; refine kca rfl rfl g1 <| kmv rfl <| RunK.passed rfl rfl rfl <| RunK.passed rfl rfl rfl <| kpt rfl rfl <| RunK.nil <| LWP.condT rfl ?_; refine LWP.seq <| LWP.region (by kernel_rfl) <| kas rfl <| RunK.nil <| LWP.ret ?_)
    exact ⟨[_], ⟨rfl, trivial⟩, rfl⟩
  | false =>
  rw [hg] at g1
  cases hg2 : greatB9 b.cs with
  | true =>
    rw [hg2] at g2
    (refine LWP.seq <| LWP.region (by kernel_rfl) <| K.box rfl rfl rfl .plain <| K.box rfl rfl rfl .plain <| kas rfl <| RunK.nil <| LWP.seq <| LWP.seq <| LWP.region (by kernel_rfl) <| kca rfl rfl (hW) <| K.not rfl rfl .plain <| RunK.nil <| LWP.condF rfl ?_; refine LWP.skip ?_; refine LWP.seq <| LWP.seq <| LWP.region (by kernel_rfl) <| K.loadAll rfl rfl rfl .plain ?_; refine kca rfl rfl g1 <| kmv rfl <| K.loadAll rfl rfl rfl (.taken rfl rfl) ?_; refine gca rfl rfl g2 rfl rfl <| kpf rfl rfl <| RunK.nil <| LWP.condT rfl ?_; refine LWP.seq <| LWP.region (by kernel_rfl) <| kas rfl <| RunK.nil <| LWP.ret ?_)
    exact ⟨[_], ⟨rfl, trivial⟩, rfl⟩
  | false =>
  rw [hg2] at g2
  have hsa := greatB9_small hg
  have hsb := greatB9_small hg2
  have hna := hNa.names hsa
  have hnb := hNb.names hsb
  have hb1 : a.cs.length < 4611686018427387904 := by have := hsa.1; omega
  have hb2 : ∀ c ∈ a.cs, c.fs.length < 4611686018427387904 := fun c hc => by have := hsa.2 c hc; omega
  have hb3 : b.cs.length < 4611686018427387904 := by have := hsb.1; omega
  have hb4 : ∀ c ∈ b.cs, c.fs.length < 4611686018427387904 := fun c hc => by have := hsb.2 c hc; omega
  have c1 := sCheck_spec X a ad ca ha hb1 hb2
  have c2 := sCheck_spec X b bd cb hb hb3 hb4
  (refine LWP.seq <| LWP.region (by kernel_rfl) <| K.box rfl rfl rfl .plain <| K.box rfl rfl rfl .plain <| kas rfl <| RunK.nil <| LWP.seq <| LWP.seq <| LWP.region (by kernel_rfl) <| kca rfl rfl (hW) <| K.not rfl rfl .plain <| RunK.nil <| LWP.condF rfl ?_; refine LWP.skip ?_; refine LWP.seq <| LWP.seq <| LWP.region (by kernel_rfl) <| K.loadAll rfl rfl rfl .plain ?_; refine kca rfl rfl g1 <| kmv rfl <| K.loadAll rfl rfl rfl (.taken rfl rfl) ?_; refine gca rfl rfl g2 rfl rfl <| kpf rfl rfl <| RunK.nil <| LWP.condF rfl ?_; refine LWP.skip ?_; refine LWP.seq <| LWP.region (by kernel_rfl) <| K.loadAll rfl rfl rfl .plain ?_; refine kca rfl rfl c1 <| kas rfl <| RunK.nil <| LWP.seq <| LWP.seq ?_)
  refine LWP.cut (fun σ => σ = d2St a b ad bd ca cb [(5, Ln .i64 (chkAB a b))] [] X) ?_ ?_
  · by_cases hz : chkE a = 0
    · rw [show chkAB a b = chkE b from if_pos hz]
      (refine LWP.region (by kernel_rfl) <| kmv rfl <| keq rfl rfl (r := true) (by rw [hz]; rfl) <| RunK.nil <| LWP.condT rfl ?_; refine LWP.region (by kernel_rfl) <| K.loadAll rfl rfl rfl .plain ?_; refine kca rfl rfl c2 <| kas rfl <| RunK.nil ?_)
      exact ⟨_, Le.of (by exact ⟨rfl, rfl, rfl, trivial⟩) (by exact ⟨rfl, rfl, trivial⟩) (by exact rfl) (by exact rfl) (by repeat' (first | refine all_cons_true ?_ ?_ | rfl | exact bytes_inUse | exact vals_inUse | exact mid_inUse rfl)), rfl⟩
    · rw [show chkAB a b = chkE a from if_neg hz]
      (refine LWP.region (by kernel_rfl) <| kmv rfl <| keq rfl rfl (r := false) (beq_eq_false_iff_ne.2 hz) <| RunK.nil <| LWP.condF rfl ?_; refine LWP.skip ?_)
      exact ⟨_, Le.of (by exact ⟨rfl, rfl, rfl, trivial⟩) (by exact ⟨rfl, rfl, trivial⟩) (by exact rfl) (by exact rfl) (by repeat' (first | refine all_cons_true ?_ ?_ | rfl | exact bytes_inUse | exact vals_inUse | exact mid_inUse rfl)), rfl⟩
  rintro σ rfl
  have ob := of_both X a b ad bd ca cb ha hb hsa hsb hna hnb
  repeat refine LWP.seq ?_
  refine LWP.meetL (fun σ => ∃ (Y : Nat → Option Obj) (ld : Option Addr) (lc : Nat), (∀ b o, X b = some o → Y b = some o) ∧ ChIn Y ld (ofL a b) ∧ σ = d2St a b ad bd ca cb [(5, Ln .i64 (chkAB a b)), (6, Vs ld (ofL a b).length lc), (7, Ln .i64 (chkAB a b))] [] Y) ?_ ?_
  · rcases ob with ⟨h0, p⟩ | p
    · (refine LWP.region (by kernel_rfl) <| K.loadAll rfl rfl rfl .plain ?_; refine K.loadAll rfl rfl rfl .plain ?_; refine K.callM [] [] (p) rfl rfl (by exact trivial) rfl rfl rfl rfl rfl (by exact .nil) .plain <| kmv rfl <| kex rfl rfl <| kex rfl rfl <| kas rfl <| kas rfl <| RunK.nil ?_)
      exact Leads.here (σ' := d2St a b ad bd ca cb [(5, Ln .i64 (chkAB a b)), (6, Vs none 0 0), (7, Ln .i64 (chkAB a b))] [] X) (Le.of (by exact ⟨rfl, rfl, rfl, rfl, rfl, trivial⟩) (by exact ⟨rfl, rfl, trivial⟩) (by exact rfl) (by exact rfl) (by repeat' (first | refine all_cons_true ?_ ?_ | rfl | exact bytes_inUse | exact vals_inUse | exact mid_inUse rfl))) ⟨X, none, 0, fun _ _ h => h, rows_none (by rw [h0]; rfl), by rw [h0]; rfl⟩
    · (refine LWP.region (by kernel_rfl) <| K.loadAll rfl rfl rfl .plain ?_; refine K.loadAll rfl rfl rfl .plain ?_; refine K.callMp [(1000001, 600)] (.tup [.one (.slc 600 0 (ofL a b).length 3), Sn .i64 (chkAB a b)]) [dhB 600 (ofL a b)] (p) rfl rfl (by exact trivial) rfl rfl rfl rfl rfl (by exact (.box rfl (Box.ren_vals _ _ _ _) .nil)) .plain <| kmv rfl <| kex rfl rfl <| kex rfl rfl <| kas rfl <| kas rfl <| RunK.nil ?_)
      refine Leads.le (σ' := ⟨[(6, .sv (.one (.slc 600 0 (ofL a b).length 3))), (2, Lp 2), (3, Lp 3), (5, Ln .i64 (chkAB a b)), (7, Ln .i64 (chkAB a b))], [dhB 600 (ofL a b), sxB 2 a.ver ad a.cs.length ca, sxB 3 b.ver bd b.cs.length cb], X⟩) (Le.of (by exact ⟨rfl, rfl, rfl, rfl, rfl, trivial⟩) (by exact ⟨rfl, rfl, rfl, trivial⟩) (by exact rfl) (by exact rfl) (by repeat' (first | refine all_cons_true ?_ ?_ | rfl | exact bytes_inUse | exact vals_inUse | exact mid_inUse rfl))) ?_
      refine Leads.freeze rfl rfl rfl fun b1 c1 a1 f1 hn _ _ _ hsp => ?_
      exact Leads.le (Le.of (by exact ⟨rfl, rfl, rfl, rfl, rfl, trivial⟩) (by exact ⟨rfl, rfl, trivial⟩) (by exact rfl) (by exact rfl) (by repeat' (first | refine all_cons_true ?_ ?_ | rfl | exact bytes_inUse | exact vals_inUse | exact mid_inUse rfl))) (Leads.done ⟨_, some ⟨b1, 0, none⟩, c1, withBlock_old hn, ch_frozen hsp, rfl⟩)
  rintro σ ⟨Y1, ld, lc, hY1, hLin, rfl⟩
  replace ha := ha.mono hY1
  replace hb := hb.mono hY1
  have lb := lines_both Y1 a b ad bd ca cb ha hb hsa hsb hna hnb
  repeat refine LWP.seq ?_
  refine LWP.meetL (fun σ => ∃ (Y : Nat → Option Obj) (td : Option Addr) (tc : Nat), (∀ b o, Y1 b = some o → Y b = some o) ∧ TxIn Y td ((ofL a b).map lineT) ∧ σ = d2St a b ad bd ca cb [(5, Ln .i64 (chkAB a b)), (6, Vs ld (ofL a b).length lc), (7, Ln .i64 (chkAB a b)), (8, Vs td (ofL a b).length tc), (9, Ln .i64 (chkAB a b))] [] Y) ?_ ?_
  · rcases lb with ⟨h0, p⟩ | p
    · (refine LWP.region (by kernel_rfl) <| K.loadAll rfl rfl rfl .plain ?_; refine K.loadAll rfl rfl rfl .plain ?_; refine K.callM [] [] (p) rfl rfl (by exact trivial) rfl rfl rfl rfl rfl (by exact .nil) .plain <| kmv rfl <| kex rfl rfl <| kex rfl rfl <| kas rfl <| kas rfl <| RunK.nil ?_)
      exact Leads.here (σ' := d2St a b ad bd ca cb [(5, Ln .i64 (chkAB a b)), (6, Vs ld (ofL a b).length lc), (7, Ln .i64 (chkAB a b)), (8, Vs none 0 0), (9, Ln .i64 (chkAB a b))] [] Y1) (Le.of (by exact ⟨rfl, rfl, rfl, rfl, rfl, rfl, rfl, trivial⟩) (by exact ⟨rfl, rfl, trivial⟩) (by exact rfl) (by exact rfl) (by repeat' (first | refine all_cons_true ?_ ?_ | rfl | exact bytes_inUse | exact vals_inUse | exact mid_inUse rfl))) ⟨Y1, none, 0, fun _ _ h => h, rows_none (by rw [h0]; rfl), by rw [h0]; rfl⟩
    · (refine LWP.region (by kernel_rfl) <| K.loadAll rfl rfl rfl .plain ?_; refine K.loadAll rfl rfl rfl .plain ?_; refine K.callMp [(1000001, 600)] (.tup [.one (.slc 600 0 (ofL a b).length 1), Sn .i64 (chkAB a b)]) [lnB 600 ((ofL a b).map lineT)] (p) rfl rfl (by exact trivial) rfl rfl rfl rfl rfl (by exact (.box rfl (Box.ren_vals _ _ _ _) .nil)) .plain <| kmv rfl <| kex rfl rfl <| kex rfl rfl <| kas rfl <| kas rfl <| RunK.nil ?_)
      refine Leads.le (σ' := ⟨[(8, .sv (.one (.slc 600 0 (ofL a b).length 1))), (2, Lp 2), (3, Lp 3), (5, Ln .i64 (chkAB a b)), (6, Vs ld (ofL a b).length lc), (7, Ln .i64 (chkAB a b)), (9, Ln .i64 (chkAB a b))], [lnB 600 ((ofL a b).map lineT), sxB 2 a.ver ad a.cs.length ca, sxB 3 b.ver bd b.cs.length cb], Y1⟩) (Le.of (by exact ⟨rfl, rfl, rfl, rfl, rfl, rfl, rfl, trivial⟩) (by exact ⟨rfl, rfl, rfl, trivial⟩) (by exact rfl) (by exact rfl) (by repeat' (first | refine all_cons_true ?_ ?_ | rfl | exact bytes_inUse | exact vals_inUse | exact mid_inUse rfl))) ?_
      refine Leads.freeze rfl rfl rfl fun b1 c1 a1 f1 hn _ _ _ hsp => ?_
      exact Leads.le (Le.of (by exact ⟨rfl, rfl, rfl, rfl, rfl, rfl, rfl, trivial⟩) (by exact ⟨rfl, rfl, trivial⟩) (by exact rfl) (by exact rfl) (by repeat' (first | refine all_cons_true ?_ ?_ | rfl | exact bytes_inUse | exact vals_inUse | exact mid_inUse rfl))) (Leads.done ⟨_, some ⟨b1, 0, none⟩, c1, withBlock_old hn, tx_frozen hsp, rfl⟩)
  rintro σ ⟨Y2, td, tc, hY2, hTin, rfl⟩
  replace ha := ha.mono hY2
  replace hb := hb.mono hY2
  replace hLin := hLin.mono hY2
  have kb := kept_both Y2 a b ad bd ca cb ha hb hsa hsb hna hnb
  repeat refine LWP.seq ?_
  refine LWP.meetL (fun σ => ∃ (Y : Nat → Option Obj) (kd : Option Addr) (kc : Nat), (∀ b o, Y2 b = some o → Y b = some o) ∧ IntIn Y kd (keptA a b) ∧ σ = d2St a b ad bd ca cb [(5, Ln .i64 (chkAB a b)), (6, Vs ld (ofL a b).length lc), (7, Ln .i64 (chkAB a b)), (8, Vs td (ofL a b).length tc), (9, Ln .i64 (chkAB a b)), (10, Vs kd (keptA a b).length kc)] [] Y) ?_ ?_
  · rcases kb with ⟨h0, p⟩ | p
    · (refine LWP.region (by kernel_rfl) <| K.loadAll rfl rfl rfl .plain ?_; refine K.loadAll rfl rfl rfl .plain ?_; refine K.callM [] [] (p) rfl rfl (by exact trivial) rfl rfl rfl rfl rfl (by exact .nil) .plain <| kas rfl <| RunK.nil ?_)
      exact Leads.here (σ' := d2St a b ad bd ca cb [(5, Ln .i64 (chkAB a b)), (6, Vs ld (ofL a b).length lc), (7, Ln .i64 (chkAB a b)), (8, Vs td (ofL a b).length tc), (9, Ln .i64 (chkAB a b)), (10, Vs none 0 0)] [] Y2) (Le.of (by exact ⟨rfl, rfl, rfl, rfl, rfl, rfl, rfl, rfl, trivial⟩) (by exact ⟨rfl, rfl, trivial⟩) (by exact rfl) (by exact rfl) (by repeat' (first | refine all_cons_true ?_ ?_ | rfl | exact bytes_inUse | exact vals_inUse | exact mid_inUse rfl))) ⟨Y2, none, 0, fun _ _ h => h, rows_none (by rw [h0]; rfl), by rw [h0]; rfl⟩
    · (refine LWP.region (by kernel_rfl) <| K.loadAll rfl rfl rfl .plain ?_; refine K.loadAll rfl rfl rfl .plain ?_; refine K.callMp [(1000001, 600)] (.sv (.one (.slc 600 0 (keptA a b).length 1))) [kpB 600 (keptA a b)] (p) rfl rfl (by exact trivial) rfl rfl rfl rfl rfl (by exact (.box rfl (Box.ren_vals _ _ _ _) .nil)) .plain <| kas rfl <| RunK.nil ?_)
      refine Leads.le (σ' := ⟨[(10, .sv (.one (.slc 600 0 (keptA a b).length 1))), (2, Lp 2), (3, Lp 3), (5, Ln .i64 (chkAB a b)), (6, Vs ld (ofL a b).length lc), (7, Ln .i64 (chkAB a b)), (8, Vs td (ofL a b).length tc), (9, Ln .i64 (chkAB a b))], [kpB 600 (keptA a b), sxB 2 a.ver ad a.cs.length ca, sxB 3 b.ver bd b.cs.length cb], Y2⟩) (Le.of (by exact ⟨rfl, rfl, rfl, rfl, rfl, rfl, rfl, rfl, trivial⟩) (by exact ⟨rfl, rfl, rfl, trivial⟩) (by exact rfl) (by exact rfl) (by repeat' (first | refine all_cons_true ?_ ?_ | rfl | exact bytes_inUse | exact vals_inUse | exact mid_inUse rfl))) ?_
      refine Leads.freeze rfl rfl rfl fun b1 c1 a1 f1 hn _ _ _ hsp => ?_
      exact Leads.le (Le.of (by exact ⟨rfl, rfl, rfl, rfl, rfl, rfl, rfl, rfl, trivial⟩) (by exact ⟨rfl, rfl, trivial⟩) (by exact rfl) (by exact rfl) (by repeat' (first | refine all_cons_true ?_ ?_ | rfl | exact bytes_inUse | exact vals_inUse | exact mid_inUse rfl))) (Leads.done ⟨_, some ⟨b1, 0, none⟩, c1, withBlock_old hn, int_frozen hsp, rfl⟩)
  rintro σ ⟨Z, kd, kc, hZ, hKin, rfl⟩
  replace ha := ha.mono hZ
  replace hb := hb.mono hZ
  replace hLin := hLin.mono hZ
  replace hTin := hTin.mono hZ
  have hne : (chkAB a b != chkAB a b) = false := by simp
  by_cases hz : chkAB a b = 0
  case neg =>
    have e1 : ofL a b = [] := if_neg hz
    have e2 : keptA a b = [] := if_neg hz
    rw [e1, e2]
    have hnz : (chkAB a b != 0) = true := bne_iff_ne.2 hz
    (refine LWP.seq <| LWP.seq <| LWP.region (by kernel_rfl) <| kmv rfl <| kmv rfl <| kne rfl rfl hne <| kmv rfl <| gmv rfl rfl rfl <| gmv rfl rfl rfl <| K.neq rfl rfl hne (.taken rfl rfl) ?_; refine kpf rfl rfl <| RunK.nil <| LWP.condF rfl ?_; refine LWP.skip ?_; refine LWP.seq <| LWP.seq <| LWP.region (by kernel_rfl) <| kmv rfl <| kne rfl rfl hnz <| RunK.nil <| LWP.condT rfl ?_; refine LWP.seq <| LWP.region (by kernel_rfl) <| kmv rfl <| K.lenX rfl SliceT.h rfl .plain ?_; refine kmv rfl <| K.lenX rfl SliceT.h rfl .plain ?_; refine kad rfl rfl rfl <| kmv rfl <| K.lenX rfl SliceT.h rfl .plain ?_; refine kad rfl rfl rfl <| keq rfl rfl rfl <| kas rfl <| RunK.nil <| LWP.ret ?_)
    exact ⟨[_], ⟨rfl, trivial⟩, rfl⟩
  obtain ⟨hza, hzb⟩ := chkAB_zero.1 hz
  have hgA := chk_good hza
  have hgB := chk_good hzb
  rw [show ofL a b = diffL a.cs b.cs from if_pos hz] at *
  rw [show keptA a b = keptL a.cs b.cs from if_pos hz] at *
  rw [hz]
  have hR := rOf_spec Z a b ad bd ca cb ha hb hsa.1 hsb.1 hsa.2 hsb.2
  have hDl : (diffL a.cs b.cs).length ≤ 60 * 24 := up_len hsa.2 hsb.2 24
  have hxs : ∀ x ∈ diffL a.cs b.cs, 1 ≤ x.comp ∧ x.comp ≤ 24 ∧ x.fld.length < 256 := fun x hx => by
    obtain ⟨h1, h2⟩ := diff_comps hx
    exact ⟨h1, h2, diff_fld (n := 255) (chk_flds hza) (chk_flds hzb) hx⟩
  generalize hD : diffL a.cs b.cs = D at *
  (refine LWP.seq <| LWP.seq <| LWP.region (by kernel_rfl) <| kmv rfl <| kmv rfl <| kne rfl rfl (r := false) rfl <| kmv rfl <| gmv rfl rfl rfl <| gmv rfl rfl rfl <| K.neq rfl rfl (r := false) rfl (.taken rfl rfl) ?_; refine kpf rfl rfl <| RunK.nil <| LWP.condF rfl ?_; refine LWP.skip ?_; refine LWP.seq <| LWP.seq <| LWP.region (by kernel_rfl) <| kmv rfl <| kne rfl rfl (r := false) rfl <| RunK.nil <| LWP.condF rfl ?_; refine LWP.skip ?_; refine LWP.seq <| LWP.region (by kernel_rfl) <| K.loadAll rfl rfl rfl .plain ?_; refine K.loadAll rfl rfl rfl .plain ?_; refine K.callMp [(1000001, 500)] (.sv (.one (.slc 500 0 D.length 3))) [chB 500 D true] (hR) rfl rfl (by exact trivial) rfl rfl rfl rfl rfl (by exact (.box rfl (Box.ren_vals _ _ _ _) .nil)) .plain <| kas rfl <| RunK.nil <| LWP.seq <| LWP.seq <| LWP.region (by kernel_rfl) <| kmv rfl <| K.lenX rfl SliceT.h rfl .plain ?_; refine kmv rfl <| K.lenSlc rfl SliceT.h rfl .plain ?_; refine kne rfl rfl (r := false) (by simp) <| kmv rfl <| gmv rfl rfl rfl <| K.lenX rfl SliceT.h rfl (.taken rfl rfl) ?_; refine gmv rfl rfl rfl <| K.lenSlc rfl SliceT.h rfl (.taken rfl rfl) ?_; refine K.neq rfl rfl (r := false) (by simp) (.taken rfl rfl) ?_; refine kpf rfl rfl <| RunK.nil <| LWP.condF rfl ?_; refine LWP.skip ?_; refine LWP.seq <| LWP.seq <| LWP.region (by kernel_rfl) <| kas rfl <| RunK.nil <| LWP.block ?_)
  refine LWP.loop (fun m σ => ∃ i : Nat, i ≤ D.length ∧ m = D.length - i ∧ σ = d2St a b ad bd ca cb [(6, Vs ld D.length lc), (8, Vs td D.length tc), (10, Vs kd (keptL a.cs b.cs).length kc), (11, .sv (.one (.slc 500 0 D.length 3))), (12, Ln .i64 (i : Nat))] [chB 500 D true] Z) D.length
    ⟨d2St a b ad bd ca cb [(6, Vs ld D.length lc), (8, Vs td D.length tc), (10, Vs kd (keptL a.cs b.cs).length kc), (11, .sv (.one (.slc 500 0 D.length 3))), (12, Ln .i64 (0 : Nat))] [chB 500 D true] Z, Le.of (by exact ⟨rfl, rfl, rfl, rfl, rfl, rfl, rfl, trivial⟩) (by exact ⟨rfl, rfl, rfl, trivial⟩) (by exact rfl) (by exact rfl) (by repeat' (first | refine all_cons_true ?_ ?_ | rfl | exact bytes_inUse | exact vals_inUse | exact mid_inUse rfl)), 0, by omega, by omega, rfl⟩ ?_
  rintro m σ ⟨i, hi, rfl, rfl⟩
  by_cases hlt : i < D.length
  · obtain ⟨x, hx⟩ : ∃ x, D[i]? = some x := ⟨_, List.getElem?_eq_getElem hlt⟩
    obtain ⟨h1, h2, h3⟩ := hxs x (List.mem_of_getElem? hx)
    obtain ⟨lb, lo, larr, lel, lfr, rfl, hLX, l1, l2, l3⟩ := hLin.at hx
    obtain ⟨tb, to_, tarr, tel, tfr, rfl, hTX, t1⟩ := hTin.at (i := i) (x := lineT x) (by rw [List.getElem?_map, hx]; rfl)
    obtain ⟨z1, z2, z3, z4, z5⟩ := chV_at hx
    have hio : lo + Int.toNat (i : Int) * 3 = lo + i * 3 := by simp
    have hto : to_ + Int.toNat (i : Int) * 1 = to_ + i * 1 := by simp
    have hib : 0 + Int.toNat (i : Int) * 3 = i * 3 := by simp
    have hbl : Nat.ble (i * 3 + 3) ((chV D).map CV.val).length = true := by rw [Nat.ble_eq]; exact z5
    have hL := rLine_spec Z x (by omega) (by omega) (by omega)
    ((refine LWP.seq <| LWP.seq <| LWP.region (by kernel_rfl) <| kmv rfl <| kmv rfl <| K.lenSlc rfl SliceT.h rfl .plain ?_; refine klt rfl rfl (decide_eq_true (by omega)) <| RunK.nil <| LWP.condT rfl ?_; refine LWP.skip ?_; refine LWP.seq <| LWP.block <| LWP.seq <| LWP.draws mixed (by kernel_rfl) <| kmv rfl <| kmv rfl <| K.indexX rfl rfl SliceT.h (by omega) hio .plain <| K.fieldAddrX rfl rfl .plain ?_; refine K.loadX rfl hLX rfl l1 .plain <| kmv rfl <| kmv rfl <| K.indexSlc rfl rfl (by omega) hib .plain ?_; refine kfa rfl rfl ?_; refine kl1 rfl rfl z1 <| kne rfl rfl (r := false) (by simp) <| kmv rfl <| gmv rfl rfl rfl <| gmv rfl rfl rfl <| K.indexX rfl rfl SliceT.h (by omega) hio (.taken rfl rfl) ?_; refine K.fieldAddrX rfl rfl (.taken rfl rfl) ?_; refine K.loadX rfl hLX rfl l2 (.taken rfl rfl) ?_; refine gmv rfl rfl rfl <| gmv rfl rfl rfl <| K.indexSlc rfl rfl (by omega) hib (.taken rfl rfl) ?_; refine K.fieldAddr rfl rfl (.taken rfl rfl) ?_; refine K.loadOne rfl rfl z2 (.taken rfl rfl) ?_); (refine K.neq rfl rfl (r := false) (by simp) (.taken rfl rfl) ?_; refine kpf rfl rfl <| kmv rfl <| gmv rfl rfl rfl <| gmv rfl rfl rfl <| K.indexX rfl rfl SliceT.h (by omega) hio (.taken rfl rfl) ?_; refine K.fieldAddrX rfl rfl (.taken rfl rfl) ?_; refine K.loadX rfl hLX rfl l3 (.taken rfl rfl) ?_; refine gmv rfl rfl rfl <| gmv rfl rfl rfl <| K.indexSlc rfl rfl (by omega) hib (.taken rfl rfl) ?_; refine K.fieldAddr rfl rfl (.taken rfl rfl) ?_; refine K.loadOne rfl rfl z3 (.taken rfl rfl) ?_; refine K.strNe rfl rfl (strs_ne (r := false) (by simp)) (.taken rfl rfl) ?_; refine kpf rfl rfl <| kmv rfl <| gmv rfl rfl rfl <| gmv rfl rfl rfl <| K.indexX rfl rfl SliceT.h (by omega) hto (.taken rfl rfl) ?_; refine K.loadX rfl hTX rfl t1 (.taken rfl rfl) ?_; refine gmv rfl rfl rfl <| gmv rfl rfl rfl <| K.indexSlc rfl rfl (by omega) hib (.taken rfl rfl) ?_; refine K.loadPart rfl rfl hbl z4 (.taken rfl rfl) ?_); (refine gca rfl rfl hL rfl rfl <| K.strNe rfl rfl (strs_ne (r := false) (by simp)) (.taken rfl rfl) ?_; refine kpf rfl rfl <| RunK.nil <| And.intro (by kernel_rfl) ?_; refine LWP.condF rfl ?_; refine LWP.skip ?_; refine LWP.region (by kernel_rfl) <| kmv rfl <| kad rfl rfl (wrap_i64 (by omega)) <| kas rfl <| RunK.nil ?_))
    exact ⟨_, d2St a b ad bd ca cb [(6, Vs (some ⟨lb, lo, none⟩) D.length lc), (8, Vs (some ⟨tb, to_, none⟩) D.length tc), (10, Vs kd (keptL a.cs b.cs).length kc), (11, .sv (.one (.slc 500 0 D.length 3))), (12, Ln .i64 (i + 1 : Nat))] [chB 500 D true] Z, by omega, Le.of (by exact ⟨rfl, rfl, rfl, rfl, rfl, rfl, rfl, trivial⟩) (by exact ⟨rfl, rfl, rfl, trivial⟩) (by exact rfl) (by exact rfl) (by repeat' (first | refine all_cons_true ?_ ?_ | rfl | exact bytes_inUse | exact vals_inUse | exact mid_inUse rfl)), i + 1, by omega, rfl, rfl⟩
  have e : i = D.length := by omega
  subst e
  (refine LWP.seq <| LWP.seq <| LWP.region (by kernel_rfl) <| kmv rfl <| kmv rfl <| K.lenSlc rfl SliceT.h rfl .plain ?_; refine klt rfl rfl (decide_eq_false (by omega)) <| RunK.nil <| LWP.condF rfl ?_; refine LWP.exit <| LWP.seq <| LWP.region (by kernel_rfl) <| kas rfl <| RunK.nil <| LWP.seq <| LWP.seq <| LWP.region (by kernel_rfl) <| kas rfl <| RunK.nil <| LWP.block ?_)
  have hka := hsa.1
  refine LWP.loop (fun m σ => ∃ i : Nat, i ≤ a.cs.length ∧ m = a.cs.length - i ∧ σ = d2St a b ad bd ca cb [(10, Vs kd (keptL a.cs b.cs).length kc), (13, Ln .i64 (keptN a.cs b.cs i : Nat)), (14, Ln .i64 (i : Nat))] [] Z) a.cs.length
    ⟨d2St a b ad bd ca cb [(10, Vs kd (keptL a.cs b.cs).length kc), (13, Ln .i64 (0 : Nat)), (14, Ln .i64 (0 : Nat))] [] Z, Le.of (by exact ⟨rfl, rfl, rfl, rfl, rfl, trivial⟩) (by exact ⟨rfl, rfl, trivial⟩) (by exact rfl) (by exact rfl) (by repeat' (first | refine all_cons_true ?_ ?_ | rfl | exact bytes_inUse | exact vals_inUse | exact mid_inUse rfl)), 0, by omega, by omega, rfl⟩ ?_
  rintro m σ ⟨i, hi, rfl, rfl⟩
  by_cases hlt : i < a.cs.length
  · obtain ⟨c, hc⟩ : ∃ c, a.cs[i]? = some c := ⟨_, List.getElem?_eq_getElem hlt⟩
    obtain ⟨blk, off, arr, el, fr, fad, fcap, rfl, hX, hsz, hcs, q1, q2, q3, hF⟩ := ha.get hc
    have hio : off + Int.toNat (i : Int) * 3 = off + i * 3 := by simp
    have hFi := sFind_spec Z b.ver bd cb b.cs c.id hb hb3
    have hks := keptN_succ (b := b.cs) hc
    rcases ix_id b.cs c.id with ⟨e1, f1⟩ | ⟨k, d, hd, e1, f1, _⟩
    · rw [f1] at hFi
      rw [e1, if_neg (by simp), Nat.add_zero] at hks
      (refine LWP.seq <| LWP.seq <| LWP.region (by kernel_rfl) <| kmv rfl <| kfa rfl rfl ?_; refine kl1 rfl rfl rfl <| K.lenX rfl SliceT.h rfl .plain ?_; refine klt rfl rfl (decide_eq_true (by omega)) <| RunK.nil <| LWP.condT rfl ?_; refine LWP.skip ?_; refine LWP.seq <| LWP.block <| LWP.seq <| LWP.draws mixed (by kernel_rfl) <| K.loadAll rfl rfl rfl .plain ?_; refine kfa rfl rfl ?_; refine kl1 rfl rfl rfl <| kmv rfl <| K.indexX rfl rfl SliceT.h (by omega) hio .plain <| K.fieldAddrX rfl rfl .plain ?_; refine K.loadX rfl hX rfl q1 .plain <| kca rfl rfl hFi <| K.geq rfl rfl (r := false) rfl .plain <| RunK.nil <| And.intro (by kernel_rfl) ?_; refine LWP.condF rfl ?_; refine LWP.skip ?_; refine LWP.region (by kernel_rfl) <| kmv rfl <| kad rfl rfl (wrap_i64 (by omega)) <| kas rfl <| RunK.nil ?_)
      exact ⟨_, d2St a b (some ⟨blk, off, none⟩) bd ca cb [(10, Vs kd (keptL a.cs b.cs).length kc), (13, Ln .i64 (keptN a.cs b.cs i : Nat)), (14, Ln .i64 (i + 1 : Nat))] [] Z, by omega, Le.of (by exact ⟨rfl, rfl, rfl, rfl, rfl, trivial⟩) (by exact ⟨rfl, rfl, trivial⟩) (by exact rfl) (by exact rfl) (by repeat' (first | refine all_cons_true ?_ ?_ | rfl | exact bytes_inUse | exact vals_inUse | exact mid_inUse rfl)), i + 1, by omega, rfl, by rw [hks]; rfl⟩
    · rw [f1] at hFi
      have hkt := keptN_at hc (show (atId b.cs c.id).isSome = true by rw [e1]; rfl)
      rw [e1, if_pos (show (some d).isSome = true from rfl)] at hks
      have hkl := (List.getElem?_eq_some_iff.1 hkt).1
      have hkm : (keptL a.cs b.cs).length ≤ 30 := by
        unfold keptL
        rw [List.length_map]
        exact Nat.le_trans (List.length_filter_le _ _) hka
      obtain ⟨kb, ko, karr, kel, kfr, rfl, hKX, k1⟩ := hKin.at hkt
      have hko : ko + Int.toNat (keptN a.cs b.cs i : Int) * 1 = ko + keptN a.cs b.cs i * 1 := by simp
      generalize keptN a.cs b.cs i = kn at *
      ((refine LWP.seq <| LWP.seq <| LWP.region (by kernel_rfl) <| kmv rfl <| kfa rfl rfl ?_; refine kl1 rfl rfl rfl <| K.lenX rfl SliceT.h rfl .plain ?_; refine klt rfl rfl (decide_eq_true (by omega)) <| RunK.nil <| LWP.condT rfl ?_; refine LWP.skip ?_; refine LWP.seq <| LWP.block <| LWP.seq <| LWP.draws mixed (by kernel_rfl) <| K.loadAll rfl rfl rfl .plain ?_; refine kfa rfl rfl ?_; refine kl1 rfl rfl rfl <| kmv rfl <| K.indexX rfl rfl SliceT.h (by omega) hio .plain <| K.fieldAddrX rfl rfl .plain ?_; refine K.loadX rfl hX rfl q1 .plain <| kca rfl rfl hFi <| K.geq rfl rfl (decide_eq_true (by omega)) .plain <| RunK.nil <| And.intro (by kernel_rfl) ?_; refine LWP.condT rfl ?_; refine LWP.seq <| LWP.seq <| LWP.draws mixed (by kernel_rfl) <| kmv rfl <| kmv rfl <| K.lenX rfl SliceT.h rfl .plain ?_; refine K.geq rfl rfl (decide_eq_false (by omega)) .plain <| kmv rfl <| gmv rfl rfl rfl <| gmv rfl rfl rfl <| K.indexX rfl rfl SliceT.h (by omega) hko (.taken rfl rfl) ?_; refine K.loadX rfl hKX rfl k1 (.taken rfl rfl) ?_); (refine K.fieldAddr rfl rfl (.taken rfl rfl) ?_; refine K.loadOne rfl rfl rfl (.taken rfl rfl) ?_; refine gmv rfl rfl rfl <| K.indexX rfl rfl SliceT.h (by omega) hio (.taken rfl rfl) ?_; refine K.fieldAddrX rfl rfl (.taken rfl rfl) ?_; refine K.loadX rfl hX rfl q1 (.taken rfl rfl) ?_; refine K.neq rfl rfl (r := false) (by simp) (.taken rfl rfl) ?_; refine kpf rfl rfl <| RunK.nil <| And.intro (by kernel_rfl) ?_; refine LWP.condF rfl ?_; refine LWP.skip ?_; refine LWP.region (by kernel_rfl) <| kmv rfl <| kad rfl rfl (wrap_i64 (by omega)) <| kas rfl <| RunK.nil <| LWP.region (by kernel_rfl) <| kmv rfl <| kad rfl rfl (wrap_i64 (by omega)) <| kas rfl <| RunK.nil ?_))
      exact ⟨_, d2St a b (some ⟨blk, off, none⟩) bd ca cb [(10, Vs (some ⟨kb, ko, none⟩) (keptL a.cs b.cs).length kc), (13, Ln .i64 (kn + 1 : Nat)), (14, Ln .i64 (i + 1 : Nat))] [] Z, by omega, Le.of (by exact ⟨rfl, rfl, rfl, rfl, rfl, trivial⟩) (by exact ⟨rfl, rfl, trivial⟩) (by exact rfl) (by exact rfl) (by repeat' (first | refine all_cons_true ?_ ?_ | rfl | exact bytes_inUse | exact vals_inUse | exact mid_inUse rfl)), i + 1, by omega, rfl, by rw [hks]⟩
  have e : i = a.cs.length := by omega
  subst e
  rw [keptN_all]
  (refine LWP.seq <| LWP.seq <| LWP.region (by kernel_rfl) <| kmv rfl <| kfa rfl rfl ?_; refine kl1 rfl rfl rfl <| K.lenX rfl SliceT.h rfl .plain ?_; refine klt rfl rfl (decide_eq_false (by omega)) <| RunK.nil <| LWP.condF rfl ?_; refine LWP.exit <| LWP.seq <| LWP.region (by kernel_rfl) <| kmv rfl <| kmv rfl <| K.lenX rfl SliceT.h rfl .plain ?_; refine keq rfl rfl (r := true) (by simp) <| kas rfl <| RunK.nil <| LWP.ret ?_)
  exact ⟨[_], ⟨rfl, trivial⟩, rfl⟩
end Go.Proofs.YtfcaebhofjjjnaaDoor
end
section
namespace Go.Proofs.YtfcaebhofjjjnaaDoor
open Go Go.Lg Go.RowKit Go.ChangeShapes Go.WideShapes Go.Joins
set_option maxRecDepth 100000
theorem tab_of_laid9 {W : World} (h : laidMetH Tryd.prog [("math/bits.deBruijn32tab", Rows.laid_math_bits_deBruijn32tab), ("math/bits.deBruijn64tab", Rows.laid_math_bits_deBruijn64tab), ("internal/strconv.uint64pow10", Rows.laid_internal_strconv_uint64pow10)] W) : Lib.TabIs Tryd.prog W "internal/strconv.uint64pow10" .u64 Lib.pow10Tab := by
  rw [MakeChecks.laidMetH_plain _ _ _ (by kernel_rfl)] at h
  have h3 : laidMet Tryd.prog (("internal/strconv.uint64pow10", Lib.tabData .u64 Lib.pow10Tab) :: []) W := (h.tail).tail
  exact Lib.tabIs_of_head (g := 0) (t := 110) (e := 97) (n := 20) (by kernel_rfl) (by kernel_rfl) (by kernel_rfl) (by kernel_rfl) (by kernel_rfl) (by kernel_rfl) h3
theorem dtab {W : World} (h : Lib.TabIs Tryd.prog W "internal/strconv.uint64pow10" .u64 Lib.pow10Tab) : DTab (fun b => W.heap[b]?) := by
  intro w hX
  unfold Lib.TabIs World.var? at h ⊢
  have hg : Tryd.prog.globalNamed "internal/strconv.uint64pow10" = some 0 := by kernel_rfl
  rw [hg] at h ⊢
  simp only [Option.bind_some] at h ⊢
  cases e : W.heap[0]? with
  | none => rw [e] at h; cases h
  | some o => rw [hX _ _ e]; rw [e] at h; exact h
end Go.Proofs.YtfcaebhofjjjnaaDoor
end
