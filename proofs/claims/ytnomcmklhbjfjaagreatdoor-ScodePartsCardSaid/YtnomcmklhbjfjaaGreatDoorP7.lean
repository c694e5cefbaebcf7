/- A piece of a proof over this program: contracts of its functions, and a logic to prove them by. -/
import Derived.Test.YtnomcmklhbjfjaaGreatDoorP2
import Derived.Test.YtnomcmklhbjfjaaGreatDoorP3
import Derived.Test.YtnomcmklhbjfjaaGreatDoorP4
import Derived.Test.YtnomcmklhbjfjaaGreatDoorP5
import Derived.Test.YtnomcmklhbjfjaaGreatDoorP6
import Derived.Test.YtnomcmklhbjfjaaGreatDoorRows
section
namespace Go.Lg.Fld
open Go Go.Lg
theorem fields_reads {X : Nat → Option Obj} {ad : Option Addr} {fs : List Fl} (h : FieldsIn X ad fs) : ReadsX X ad (flV fs) := ⟨fun j u hj => by
  have hjl := (List.getElem?_eq_some_iff.1 hj).1
  rw [flV_len] at hjl
  obtain ⟨f, hf⟩ : ∃ f, fs[j / 3]? = some f := ⟨_, List.getElem?_eq_getElem (by omega)⟩
  obtain ⟨blk, off, arr, el, fr, rfl, hX, hsz, hcs⟩ := h.rows (j / 3) f.vals (by rw [List.getElem?_map, hf]; rfl)
  refine ⟨blk, off, arr, el, fr, rfl, hX, ?_⟩
  obtain ⟨h1, h2⟩ := flV_at hf
  have h3 : ((flV fs).drop (j / 3 * 3)).take 3 = (arr.toList.drop (off + j / 3 * 3)).take 3 := by rw [h2, hcs]
  have h4 : (((flV fs).drop (j / 3 * 3)).take 3)[j % 3]? = ((arr.toList.drop (off + j / 3 * 3)).take 3)[j % 3]? := by rw [h3]
  rw [List.getElem?_take, List.getElem?_take, if_pos (Nat.mod_lt _ (by omega)), if_pos (Nat.mod_lt _ (by omega)), List.getElem?_drop, List.getElem?_drop, show j / 3 * 3 + j % 3 = j by omega, show off + j / 3 * 3 + j % 3 = off + j by omega, hj, Array.getElem?_toList] at h4
  exact h4.symm⟩
theorem flV_one (fs : List Fl) : ∀ u ∈ flV fs, u.oneCell' = true := fun u hu => by
  unfold flV at hu
  rw [List.mem_flatten] at hu
  obtain ⟨l, hl, hu⟩ := hu
  obtain ⟨f, _, rfl⟩ := List.mem_map.1 hl
  simp only [Fl.vals, List.mem_cons, List.not_mem_nil, or_false] at hu
  rcases hu with rfl | rfl | rfl <;> rfl
theorem FieldsIn.none {X : Nat → Option Obj} {fs : List Fl} (h : FieldsIn X none fs) : fs = [] := by
  cases hfs : fs with
  | nil => rfl
  | cons f t =>
    obtain ⟨_, _, _, _, _, e, _⟩ := h.nm (k := 0) (f := f) (by rw [hfs]; rfl)
    cases e
end Go.Lg.Fld
namespace Go.Proofs.YtnomcmklhbjfjaaGreatDoor
open Go Go.Lg Go.Lg.Fld
set_option maxRecDepth 100000
abbrev SCx (c : Cp) (fad : Option Addr) (fcap : Nat) : SV := .agg [.val (.int .i64 c.id), .val (.string ⟨c.nm.toArray⟩), .val (.slice fad c.fs.length fcap)]
abbrev SC0 : SV := .agg [.val (.int .i64 0), .val (.string ⟨#[]⟩), .val (.slice none 0 0)]
abbrev SCs (c : Cp) (k : Nat) : SV := .agg [.val (.int .i64 c.id), .val (.string ⟨c.nm.toArray⟩), .slc k 0 c.fs.length 3]
abbrev fdB (k : Nat) (fs : List Fl) : Nat × Option Box := (k, some ⟨57, (flV fs).map .val, true⟩)
abbrev Lf (f : FuncId) (caps : List Value) : LV := .sv (.one (.val (.func (.func f) #[] caps.toArray)))
abbrev Fx (f : Fl) : LV := .sv (.agg (f.vals.map CV.val))
variable (X : Nat → Option Obj)
theorem idxC_spec (ad : Option Addr) (cap : Nat) (cs : List Cp) (hin : CompsIn X ad cs) (hbig : cs.length < 4611686018427387904) (f : FuncId) (caps : List Value) (p : Cp → Bool)
    (hp : ∀ c ∈ cs, ∀ fad fcap, PSpec Tryz.prog X f ([Cx c fad fcap] ++ caps.map fun v => .sv (.one (.val v))) (Lb (p c))) :
    PSpec Tryz.prog X 88 [Lx ad cs.length cap, Lf f caps] (Ln .i64 (findI p cs)) := by
  refine PSpec.intro Tryz.func88 rfl (by kernel_rfl) rfl rfl ?_
  intro C
  (refine LWP.seq <| LWP.region (by kernel_rfl) <| kas rfl <| RunK.nil <| LWP.seq <| LWP.seq <| LWP.region (by kernel_rfl) <| kmv rfl <| K.lenX rfl SliceT.h rfl .plain ?_; refine kmv rfl <| RunK.nil <| LWP.block ?_)
  refine LWP.loop (fun m σ => ∃ i : Nat, i ≤ cs.length ∧ m = cs.length - i ∧ (∀ (j : Nat) (y : Cp), j < i → cs[j]? = some y → p y = false) ∧ σ = ⟨[(0, Lx ad cs.length cap), (1, Lf f caps), (7, Ln .i64 (cs.length : Nat)), (8, Ln .i64 (i : Nat))], [], X⟩) cs.length
    ⟨_, Le.of (by exact ⟨rfl, rfl, rfl, rfl, trivial⟩) (by exact trivial) (by exact rfl) (by exact rfl) (by exact rfl), 0, by omega, by omega, fun j y hj => absurd hj (by omega), rfl⟩ ?_
  rintro m σ ⟨i, hi, rfl, hpre, rfl⟩
  by_cases hlt : i < cs.length
  · obtain ⟨c, hc⟩ : ∃ c, cs[i]? = some c := ⟨_, List.getElem?_eq_getElem hlt⟩
    obtain ⟨blk, off, arr, el, fr, fad, fcap, rfl, hX, hsz, hcs, _, _, _, hF⟩ := hin.get hc
    have hio : off + Int.toNat (i : Int) * 3 = off + i * 3 := by simp
    have hP := hp c (List.mem_of_getElem? hc) fad fcap
    cases hpc : p c with
    | true =>
      rw [hpc] at hP
      rw [findI_some hpre hc hpc]
      (refine LWP.seq <| LWP.region (by kernel_rfl) <| klt rfl rfl (decide_eq_true (by omega)) <| RunK.nil <| LWP.seq <| LWP.condT rfl ?_; refine LWP.skip ?_; refine LWP.seq <| LWP.block <| LWP.seq <| LWP.region (by kernel_rfl) <| kmv rfl <| kas rfl <| RunK.nil <| LWP.seq <| LWP.region (by kernel_rfl) <| kmv rfl <| kmv rfl <| kmv rfl <| K.indexX rfl rfl SliceT.h (by omega) hio .plain <| K.loadXagg rfl hX (by kernel_rfl) hsz hcs .plain ?_; refine K.callF rfl rfl rfl hP .plain ?_; refine RunK.nil <| LWP.condT rfl ?_; refine LWP.seq <| LWP.region (by kernel_rfl) <| kmv rfl <| kas rfl <| RunK.nil <| LWP.ret ?_)
      exact ⟨[_], ⟨rfl, trivial⟩, rfl⟩
    | false =>
      rw [hpc] at hP
      (refine LWP.seq <| LWP.region (by kernel_rfl) <| klt rfl rfl (decide_eq_true (by omega)) <| RunK.nil <| LWP.seq <| LWP.condT rfl ?_; refine LWP.skip ?_; refine LWP.seq <| LWP.block <| LWP.seq <| LWP.region (by kernel_rfl) <| kmv rfl <| kas rfl <| RunK.nil <| LWP.seq <| LWP.region (by kernel_rfl) <| kmv rfl <| kmv rfl <| kmv rfl <| K.indexX rfl rfl SliceT.h (by omega) hio .plain <| K.loadXagg rfl hX (by kernel_rfl) hsz hcs .plain ?_; refine K.callF rfl rfl rfl hP .plain ?_; refine RunK.nil <| LWP.condF rfl ?_; refine LWP.skip ?_; refine LWP.region (by kernel_rfl) <| kad rfl rfl (wrap_i64 (by omega)) <| kmv rfl <| RunK.nil ?_)
      exact ⟨_, _, by omega, Le.of (by exact ⟨rfl, rfl, rfl, rfl, trivial⟩) (by exact trivial) (by exact rfl) (by exact rfl) (by exact rfl), i + 1, by omega, rfl, (fun j y hj hy => by
        by_cases e : j = i
        · subst e; rw [hc] at hy; cases hy; exact hpc
        · exact hpre j y (by omega) hy), rfl⟩
  · rw [findI_none fun j y hy => hpre j y (by have := (List.getElem?_eq_some_iff.1 hy).1; omega) hy]
    (refine LWP.seq <| LWP.region (by kernel_rfl) <| klt rfl rfl (decide_eq_false (by omega)) <| RunK.nil <| LWP.seq <| LWP.condF rfl ?_; refine LWP.exit <| LWP.seq <| LWP.region (by kernel_rfl) <| kas rfl <| RunK.nil <| LWP.ret ?_)
    exact ⟨[_], ⟨rfl, trivial⟩, rfl⟩
abbrev Vp (b : Nat) : LV := .sv (.one (.val (.pointer (some ⟨b, 0, none⟩))))
theorem find1_spec (c : Cp) (fad : Option Addr) (fcap : Nat) (id : Int) {b : Nat} {arr : Array Value} {el : TypeId} {fr : Nat × Nat} (hX : X b = some (.cells arr el fr)) (h0 : arr[0]? = some (.int .i64 id)) :
    PSpec Tryz.prog X 75 [Cx c fad fcap, Vp b] (Lb (c.id == id)) := by
  refine PSpec.intro Tryz.func75 rfl (by kernel_rfl) rfl rfl ?_
  intro C
  (refine LWP.seq <| LWP.region (by kernel_rfl) <| K.box rfl rfl rfl .plain <| kas rfl <| RunK.nil <| LWP.seq <| LWP.region (by kernel_rfl) <| kfa rfl rfl ?_; refine kl1 rfl rfl rfl <| K.loadX rfl hX rfl h0 .plain <| keq rfl rfl rfl <| kas rfl <| RunK.nil <| LWP.ret ?_)
  exact ⟨[_], ⟨rfl, trivial⟩, rfl⟩
theorem fclone_nil (cap : Nat) : PSpec Tryz.prog X 97 [Lx none 0 cap] (Lx none 0 0) := by
  refine PSpec.intro Tryz.func97 rfl (by kernel_rfl) rfl rfl ?_
  intro C
  (refine LWP.seq <| LWP.region (by kernel_rfl) <| kas rfl <| RunK.nil <| LWP.seq <| LWP.seq <| LWP.region (by kernel_rfl) <| kmv rfl <| K.slcNil (r := true) rfl SliceT.h (.inl ⟨rfl, rfl⟩) .plain ?_; refine RunK.nil <| LWP.condT rfl ?_; refine LWP.seq <| LWP.region (by kernel_rfl) <| kas rfl <| RunK.nil <| LWP.ret ?_)
  exact ⟨[_], ⟨rfl, trivial⟩, rfl⟩
theorem fclone_some (fa : Addr) (cap : Nat) (fs : List Fl) (hF : FieldsIn X (some fa) fs) (hb : fs.length ≤ 65536) :
    MSpec Tryz.prog X 97 [Lx (some fa) fs.length cap] [] (.sv (.one (.slc 1000001 0 fs.length 3))) [fdB 1000001 fs] := by
  refine MSpec.intro Tryz.func97 rfl (by kernel_rfl) rfl rfl (by exact (by repeat' (first | refine all_cons_true ?_ ?_ | rfl | exact bytes_inUse | exact vals_inUse | exact mid_inUse rfl))) rfl rfl ?_
  intro C
  (refine LWP.seq <| LWP.region (by kernel_rfl) <| kas rfl <| RunK.nil <| LWP.seq <| LWP.seq <| LWP.region (by kernel_rfl) <| kmv rfl <| K.slcNil (r := false) rfl SliceT.h (.inl ⟨rfl, rfl⟩) .plain ?_; refine RunK.nil <| LWP.condF rfl ?_; refine LWP.skip ?_; refine LWP.seq <| LWP.region (by kernel_rfl) <| K.buildSlc (zs := []) (sz := 3) (e := 57) (by kernel_rfl) rfl rfl rfl rfl rfl rfl .plain <| kmv rfl <| K.appendX (by_ := 32) (e2 := 57) (news := flV fs) (nl := fs.length) (nc := (flV fs).map .val) rfl rfl rfl rfl (fields_reads hF) (flV_len fs) (flV_one fs) (by kernel_rfl) (by kernel_rfl) (by omega) (by omega) rfl (by omega) rfl .plain ?_; refine kas rfl <| RunK.nil <| LWP.ret ?_)
  exact ⟨[(1000001, 7)], ⟨[_], ⟨rfl, trivial⟩, rfl⟩, (by repeat' (first | exact trivial | refine And.intro ⟨_, rfl, ?_⟩ ?_ | refine And.intro ⟨_, rfl⟩ ?_ | rfl | exact Box.ren_bytes _ _ _ _ | exact Box.ren_vals _ _ _ _ | exact Box.ren_mid rfl)), rfl, rfl⟩
theorem cclone_nil (c : Cp) (cap : Nat) (h : c.fs = []) : PSpec Tryz.prog X 89 [Cx c none cap] (.sv (SCx c none 0)) := by
  refine PSpec.intro Tryz.func89 rfl (by kernel_rfl) rfl rfl ?_
  intro C
  have hq := fclone_nil X cap
  obtain ⟨id, nm, fs⟩ := c
  simp only at h
  subst h
  (refine LWP.seq <| LWP.region (by kernel_rfl) <| K.box rfl rfl rfl .plain <| K.alloc rfl .plain ?_; refine RunK.nil <| LWP.seq <| LWP.region (by kernel_rfl) <| kfa rfl rfl ?_; refine kl1 rfl rfl rfl <| kca rfl rfl hq <| kfa rfl rfl ?_; refine K.storeOne rfl rfl rfl rfl rfl (nl3 rfl rfl rfl rfl) .plain <| RunK.nil <| LWP.seq <| LWP.region (by kernel_rfl) <| K.loadAll rfl rfl rfl .plain ?_; refine K.storeAll rfl rfl rfl rfl rfl rfl .plain ?_; refine RunK.nil <| LWP.ret ?_)
  exact ⟨[_], ⟨⟨_, _, rfl, rfl, rfl, .inl ⟨AggT.h, rfl⟩⟩, trivial⟩, rfl⟩
theorem cclone_some (c : Cp) (fa : Addr) (cap : Nat) (hF : FieldsIn X (some fa) c.fs) (hb : c.fs.length ≤ 65536) :
    MSpec Tryz.prog X 89 [Cx c (some fa) cap] [] (.sv (SCs c 1000001)) [fdB 1000001 c.fs] := by
  refine MSpec.intro Tryz.func89 rfl (by kernel_rfl) rfl rfl (by exact (by repeat' (first | refine all_cons_true ?_ ?_ | rfl | exact bytes_inUse | exact vals_inUse | exact mid_inUse rfl))) rfl rfl ?_
  intro C
  have hq := fclone_some X fa cap c.fs hF hb
  (refine LWP.seq <| LWP.region (by kernel_rfl) <| K.box rfl rfl rfl .plain <| K.alloc rfl .plain ?_; refine RunK.nil <| LWP.seq <| LWP.region (by kernel_rfl) <| kfa rfl rfl ?_; refine kl1 rfl rfl rfl <| K.callMp [(1000001, 20)] (.sv (.one (.slc 20 0 c.fs.length 3))) [fdB 20 c.fs] (hq) rfl rfl (by exact trivial) rfl rfl rfl rfl rfl (by exact (.box rfl (Box.ren_vals _ _ _ _) .nil)) .plain <| kfa rfl rfl ?_; refine K.storeOne rfl rfl rfl rfl rfl (nl3 rfl rfl rfl rfl) .plain <| RunK.nil <| LWP.seq <| LWP.region (by kernel_rfl) <| K.loadAll rfl rfl rfl .plain ?_; refine K.storeAll rfl rfl rfl rfl rfl rfl .plain ?_; refine RunK.nil <| LWP.ret ?_)
  exact ⟨[(1000001, 20)], ⟨[_], ⟨⟨_, _, rfl, rfl, rfl, .inl ⟨AggT.h, rfl⟩⟩, trivial⟩, rfl⟩, (by repeat' (first | exact trivial | refine And.intro ⟨_, rfl, ?_⟩ ?_ | refine And.intro ⟨_, rfl⟩ ?_ | rfl | exact Box.ren_bytes _ _ _ _ | exact Box.ren_vals _ _ _ _ | exact Box.ren_mid rfl)), rfl, rfl⟩
section
variable (ver : Int) (ad : Option Addr) (cap : Nat) (cs : List Cp) (f : FuncId) (caps : List Value) (p : Cp → Bool)
theorem first_no (hin : CompsIn X ad cs) (hbig : cs.length < 4611686018427387904) (hp : ∀ c ∈ cs, ∀ fad fcap, PSpec Tryz.prog X f ([Cx c fad fcap] ++ caps.map fun v => .sv (.one (.val v))) (Lb (p c))) (hno : findI p cs = -1) :
    PSpec Tryz.prog X 74 [Sx ver ad cs.length cap, Lf f caps] (.tup [SC0, Sb false]) := by
  refine PSpec.intro Tryz.func74 rfl (by kernel_rfl) rfl rfl ?_
  intro C
  have hI := idxC_spec X ad cap cs hin hbig f caps p hp
  rw [hno] at hI
  (refine LWP.seq <| LWP.region (by kernel_rfl) <| K.box rfl rfl rfl .plain <| K.alloc rfl .plain ?_; refine kas rfl <| RunK.nil <| LWP.seq <| LWP.region (by kernel_rfl) <| kfa rfl rfl ?_; refine kl1 rfl rfl rfl <| kmv rfl <| kca rfl rfl hI <| kas rfl <| RunK.nil <| LWP.seq <| LWP.seq <| LWP.region (by kernel_rfl) <| kmv rfl <| klt rfl rfl rfl <| RunK.nil <| LWP.condT rfl ?_; refine LWP.seq <| LWP.region (by kernel_rfl) <| K.build rfl rfl (by exact rfl) (by exact nl3 rfl rfl rfl rfl) .plain ?_; refine K.storeAll rfl rfl rfl rfl rfl rfl .plain ?_; refine kas rfl <| RunK.nil <| LWP.ret ?_)
  exact ⟨[_, _], ⟨⟨_, _, rfl, rfl, rfl, .inl ⟨AggT.h, rfl⟩⟩, rfl, trivial⟩, rfl⟩
theorem first_nil (hin : CompsIn X ad cs) (hbig : cs.length < 4611686018427387904) (hp : ∀ c ∈ cs, ∀ fad fcap, PSpec Tryz.prog X f ([Cx c fad fcap] ++ caps.map fun v => .sv (.one (.val v))) (Lb (p c)))
    {i : Nat} {c : Cp} (hpre : ∀ (j : Nat) (y : Cp), j < i → cs[j]? = some y → p y = false) (hc : cs[i]? = some c) (he : p c = true)
    {blk off : Nat} {arr : Array Value} {el : TypeId} {fr : Nat × Nat} {fcap : Nat} (had : ad = some ⟨blk, off, none⟩) (hX : X blk = some (.cells arr el fr)) (hsz : off + i * 3 + 3 ≤ arr.size) (hcs : ((arr.toList.drop (off + i * 3)).take 3).map CV.val = [.val (.int .i64 c.id), .val (.string ⟨c.nm.toArray⟩), .val (.slice none c.fs.length fcap)]) (h0 : c.fs = []) :
    PSpec Tryz.prog X 74 [Sx ver ad cs.length cap, Lf f caps] (.tup [SCx c none 0, Sb true]) := by
  subst had
  have hI := idxC_spec X _ cap cs hin hbig f caps p hp
  rw [findI_some hpre hc he] at hI
  have hi := (List.getElem?_eq_some_iff.1 hc).1
  have hio : off + Int.toNat (i : Int) * 3 = off + i * 3 := by simp
  refine PSpec.intro Tryz.func74 rfl (by kernel_rfl) rfl rfl ?_
  intro C
  have hq := cclone_nil X c fcap h0
  (refine LWP.seq <| LWP.region (by kernel_rfl) <| K.box rfl rfl rfl .plain <| K.alloc rfl .plain ?_; refine kas rfl <| RunK.nil <| LWP.seq <| LWP.region (by kernel_rfl) <| kfa rfl rfl ?_; refine kl1 rfl rfl rfl <| kmv rfl <| kca rfl rfl hI <| kas rfl <| RunK.nil <| LWP.seq <| LWP.seq <| LWP.region (by kernel_rfl) <| kmv rfl <| klt rfl rfl (decide_eq_false (by omega)) <| RunK.nil <| LWP.condF rfl ?_; refine LWP.skip ?_; refine LWP.seq <| LWP.region (by kernel_rfl) <| kfa rfl rfl ?_; refine kl1 rfl rfl rfl <| kmv rfl <| K.indexX rfl rfl SliceT.h (by omega) hio .plain <| K.loadXagg rfl hX (by kernel_rfl) hsz hcs .plain <| kca rfl rfl hq <| K.storeAll rfl rfl rfl rfl rfl rfl .plain ?_; refine kas rfl <| RunK.nil <| LWP.ret ?_)
  exact ⟨[_, _], ⟨⟨_, _, rfl, rfl, rfl, .inl ⟨AggT.h, rfl⟩⟩, rfl, trivial⟩, rfl⟩
theorem first_box (hin : CompsIn X ad cs) (hbig : cs.length < 4611686018427387904) (hp : ∀ c ∈ cs, ∀ fad fcap, PSpec Tryz.prog X f ([Cx c fad fcap] ++ caps.map fun v => .sv (.one (.val v))) (Lb (p c)))
    {i : Nat} {c : Cp} (hpre : ∀ (j : Nat) (y : Cp), j < i → cs[j]? = some y → p y = false) (hc : cs[i]? = some c) (he : p c = true)
    {blk off : Nat} {arr : Array Value} {el : TypeId} {fr : Nat × Nat} {fcap : Nat} {fa : Addr} (had : ad = some ⟨blk, off, none⟩) (hX : X blk = some (.cells arr el fr)) (hsz : off + i * 3 + 3 ≤ arr.size) (hcs : ((arr.toList.drop (off + i * 3)).take 3).map CV.val = [.val (.int .i64 c.id), .val (.string ⟨c.nm.toArray⟩), .val (.slice (some fa) c.fs.length fcap)]) (hF : FieldsIn X (some fa) c.fs) (hfb : c.fs.length ≤ 65536) :
    MSpec Tryz.prog X 74 [Sx ver ad cs.length cap, Lf f caps] [] (.tup [SCs c 1000001, Sb true]) [fdB 1000001 c.fs] := by
  subst had
  have hI := idxC_spec X _ cap cs hin hbig f caps p hp
  rw [findI_some hpre hc he] at hI
  have hi := (List.getElem?_eq_some_iff.1 hc).1
  have hio : off + Int.toNat (i : Int) * 3 = off + i * 3 := by simp
  refine MSpec.intro Tryz.func74 rfl (by kernel_rfl) rfl rfl (by exact (by repeat' (first | refine all_cons_true ?_ ?_ | rfl | exact bytes_inUse | exact vals_inUse | exact mid_inUse rfl))) rfl rfl ?_
  intro C
  have hq := cclone_some X c fa fcap hF hfb
  (refine LWP.seq <| LWP.region (by kernel_rfl) <| K.box rfl rfl rfl .plain <| K.alloc rfl .plain ?_; refine kas rfl <| RunK.nil <| LWP.seq <| LWP.region (by kernel_rfl) <| kfa rfl rfl ?_; refine kl1 rfl rfl rfl <| kmv rfl <| kca rfl rfl hI <| kas rfl <| RunK.nil <| LWP.seq <| LWP.seq <| LWP.region (by kernel_rfl) <| kmv rfl <| klt rfl rfl (decide_eq_false (by omega)) <| RunK.nil <| LWP.condF rfl ?_; refine LWP.skip ?_; refine LWP.seq <| LWP.region (by kernel_rfl) <| kfa rfl rfl ?_; refine kl1 rfl rfl rfl <| kmv rfl <| K.indexX rfl rfl SliceT.h (by omega) hio .plain <| K.loadXagg rfl hX (by kernel_rfl) hsz hcs .plain <| K.callMp [(1000001, 20)] (.sv (SCs c 20)) [fdB 20 c.fs] (hq) rfl rfl (by exact trivial) rfl rfl rfl rfl rfl (by exact (.box rfl (Box.ren_vals _ _ _ _) .nil)) .plain <| K.storeAll rfl rfl rfl rfl rfl rfl .plain ?_; refine kas rfl <| RunK.nil <| LWP.ret ?_)
  exact ⟨[(1000001, 20)], ⟨[_, _], ⟨⟨_, _, rfl, rfl, rfl, .inl ⟨AggT.h, rfl⟩⟩, rfl, trivial⟩, rfl⟩, (by repeat' (first | exact trivial | refine And.intro ⟨_, rfl, ?_⟩ ?_ | refine And.intro ⟨_, rfl⟩ ?_ | rfl | exact Box.ren_bytes _ _ _ _ | exact Box.ren_vals _ _ _ _ | exact Box.ren_mid rfl)), rfl, rfl⟩
end
theorem at_zero {arr : Array Value} {v : Value} (h : ∃ sp, arr.toList = [v] ++ sp) : arr[0]? = some v := by
  obtain ⟨sp, h⟩ := h
  rw [← Array.getElem?_toList, h]; rfl
theorem pFind_no (ver : Int) (ad : Option Addr) (cap : Nat) (cs : List Cp) (id : Int) (hin : CompsIn X ad cs) (hbig : cs.length < 4611686018427387904) (hno : ∀ (j : Nat) (y : Cp), cs[j]? = some y → (y.id == id) = false) :
    PSpec Tryz.prog X 62 [Sx ver ad cs.length cap, Ln .i64 id] (.tup [SC0, Sb false]) := by
  refine PSpec.intro Tryz.func62 rfl (by kernel_rfl) rfl rfl ?_
  intro C
  (refine LWP.seq <| LWP.region (by kernel_rfl) <| K.box rfl rfl rfl .plain <| K.box1 rfl rfl rfl .plain <| K.alloc rfl .plain ?_; refine kas rfl <| RunK.nil <| LWP.seq ?_)
  refine LWP.le (σ' := ⟨[(3, Lp 3), (2, Lp 2), (4, Lp 4)], [(3, some ⟨3, [Value.int .i64 id].map .val, false⟩), sxB 2 ver ad cs.length cap, (4, some ⟨60, [.val (.int .i64 0), .val (.string ⟨#[]⟩), .val (.slice none 0 0)], false⟩)], X⟩) (Le.of (by exact ⟨rfl, rfl, rfl, trivial⟩) (by exact ⟨rfl, rfl, rfl, trivial⟩) (by exact rfl) (by exact rfl) (by repeat' (first | refine all_cons_true ?_ ?_ | rfl | exact bytes_inUse | exact vals_inUse | exact mid_inUse rfl))) ?_
  refine LWP.freezePtr (by rfl) (by rfl) (by rfl) fun b arr0 fr0 hn _ h0 => ?_
  have hin' := hin.mono (withBlock_old (o := .cells arr0 3 fr0) hn)
  have hp := fun (c : Cp) (_ : c ∈ cs) (fad : Option Addr) (fcap : Nat) => find1_spec _ c fad fcap id (withBlock_at X b (.cells arr0 3 fr0)) (at_zero h0)
  have hq := first_no _ ver ad cap cs 75 [.pointer (some ⟨b, 0, none⟩)] (fun c => c.id == id) hin' hbig hp (findI_none hno)
  (refine LWP.region (by kernel_rfl) <| K.loadAll rfl rfl rfl .plain ?_; refine K.makeFunc rfl rfl .plain ?_; refine kca rfl rfl hq <| kex rfl rfl <| kex rfl rfl <| K.storeAll rfl rfl rfl rfl rfl rfl .plain ?_; refine kas rfl <| RunK.nil <| LWP.ret ?_)
  exact ⟨[_, _], ⟨⟨_, _, rfl, rfl, rfl, .inl ⟨AggT.h, rfl⟩⟩, rfl, trivial⟩, rfl⟩
theorem pFind (ver : Int) (ad : Option Addr) (cap : Nat) (cs : List Cp) (id : Int) (hin : CompsIn X ad cs) (hbig : cs.length < 4611686018427387904) (hfs : ∀ c ∈ cs, c.fs.length ≤ 65536) {i : Nat} {c : Cp} (hpre : ∀ (j : Nat) (y : Cp), j < i → cs[j]? = some y → (y.id == id) = false) (hc : cs[i]? = some c) (he : c.id = id) :
    (c.fs = [] ∧ PSpec Tryz.prog X 62 [Sx ver ad cs.length cap, Ln .i64 id] (.tup [SCx c none 0, Sb true])) ∨
      MSpec Tryz.prog X 62 [Sx ver ad cs.length cap, Ln .i64 id] [] (.tup [SCs c 1000001, Sb true]) [fdB 1000001 c.fs] := by
  have he' : (c.id == id) = true := by rw [beq_iff_eq]; exact he
  obtain ⟨blk, off, arr, el, fr, fad, fcap, rfl, hX, hsz, hcs, _, _, _, hF⟩ := hin.get hc
  cases fad with
  | none =>
    have hnil := hF.none
    refine .inl ⟨hnil, ?_⟩
    refine PSpec.intro Tryz.func62 rfl (by kernel_rfl) rfl rfl ?_
    intro C
    (refine LWP.seq <| LWP.region (by kernel_rfl) <| K.box rfl rfl rfl .plain <| K.box1 rfl rfl rfl .plain <| K.alloc rfl .plain ?_; refine kas rfl <| RunK.nil <| LWP.seq ?_)
    refine LWP.le (σ' := ⟨[(3, Lp 3), (2, Lp 2), (4, Lp 4)], [(3, some ⟨3, [Value.int .i64 id].map .val, false⟩), sxB 2 ver (some ⟨blk, off, none⟩) cs.length cap, (4, some ⟨60, [.val (.int .i64 0), .val (.string ⟨#[]⟩), .val (.slice none 0 0)], false⟩)], X⟩) (Le.of (by exact ⟨rfl, rfl, rfl, trivial⟩) (by exact ⟨rfl, rfl, rfl, trivial⟩) (by exact rfl) (by exact rfl) (by repeat' (first | refine all_cons_true ?_ ?_ | rfl | exact bytes_inUse | exact vals_inUse | exact mid_inUse rfl))) ?_
    refine LWP.freezePtr (by rfl) (by rfl) (by rfl) fun b arr0 fr0 hn _ h0 => ?_
    have hin' := hin.mono (withBlock_old (o := .cells arr0 3 fr0) hn)
    have hp := fun (c : Cp) (_ : c ∈ cs) (fad : Option Addr) (fcap : Nat) => find1_spec _ c fad fcap id (withBlock_at X b (.cells arr0 3 fr0)) (at_zero h0)
    have hq := first_nil _ ver _ cap cs 75 [.pointer (some ⟨b, 0, none⟩)] (fun c => c.id == id) hin' hbig hp hpre hc he' rfl (withBlock_old hn _ _ hX) hsz hcs hnil
    (refine LWP.region (by kernel_rfl) <| K.loadAll rfl rfl rfl .plain ?_; refine K.makeFunc rfl rfl .plain ?_; refine kca rfl rfl hq <| kex rfl rfl <| kex rfl rfl <| K.storeAll rfl rfl rfl rfl rfl rfl .plain ?_; refine kas rfl <| RunK.nil <| LWP.ret ?_)
    exact ⟨[_, _], ⟨⟨_, _, rfl, rfl, rfl, .inl ⟨AggT.h, rfl⟩⟩, rfl, trivial⟩, rfl⟩
  | some fa =>
    refine .inr ?_
    refine MSpec.intro Tryz.func62 rfl (by kernel_rfl) rfl rfl (by exact (by repeat' (first | refine all_cons_true ?_ ?_ | rfl | exact bytes_inUse | exact vals_inUse | exact mid_inUse rfl))) rfl rfl ?_
    intro C
    (refine LWP.seq <| LWP.region (by kernel_rfl) <| K.box rfl rfl rfl .plain <| K.box1 rfl rfl rfl .plain <| K.alloc rfl .plain ?_; refine kas rfl <| RunK.nil <| LWP.seq ?_)
    refine LWP.le (σ' := ⟨[(3, Lp 3), (2, Lp 2), (4, Lp 4)], [(3, some ⟨3, [Value.int .i64 id].map .val, false⟩), sxB 2 ver (some ⟨blk, off, none⟩) cs.length cap, (4, some ⟨60, [.val (.int .i64 0), .val (.string ⟨#[]⟩), .val (.slice none 0 0)], false⟩)], X⟩) (Le.of (by exact ⟨rfl, rfl, rfl, trivial⟩) (by exact ⟨rfl, rfl, rfl, trivial⟩) (by exact rfl) (by exact rfl) (by repeat' (first | refine all_cons_true ?_ ?_ | rfl | exact bytes_inUse | exact vals_inUse | exact mid_inUse rfl))) ?_
    refine LWP.freezePtr (by rfl) (by rfl) (by rfl) fun b arr0 fr0 hn _ h0 => ?_
    have hin' := hin.mono (withBlock_old (o := .cells arr0 3 fr0) hn)
    have hp := fun (c : Cp) (_ : c ∈ cs) (fad : Option Addr) (fcap : Nat) => find1_spec _ c fad fcap id (withBlock_at X b (.cells arr0 3 fr0)) (at_zero h0)
    have hq := first_box _ ver _ cap cs 75 [.pointer (some ⟨b, 0, none⟩)] (fun c => c.id == id) hin' hbig hp hpre hc he' rfl (withBlock_old hn _ _ hX) hsz hcs (hF.mono (withBlock_old hn)) (hfs c (List.mem_of_getElem? hc))
    (refine LWP.region (by kernel_rfl) <| K.loadAll rfl rfl rfl .plain ?_; refine K.makeFunc rfl rfl .plain ?_; refine K.callMp [(1000001, 20)] (.tup [SCs c 20, Sb true]) [fdB 20 c.fs] (hq) rfl rfl (by exact trivial) rfl rfl rfl rfl rfl (by exact (.box rfl (Box.ren_vals _ _ _ _) .nil)) .plain <| kex rfl rfl <| kex rfl rfl <| K.storeAll rfl rfl rfl rfl rfl rfl .plain ?_; refine kas rfl <| RunK.nil <| LWP.ret ?_)
    exact ⟨[(1000001, 20)], ⟨[_, _], ⟨⟨_, _, rfl, rfl, rfl, .inl ⟨AggT.h, rfl⟩⟩, rfl, trivial⟩, rfl⟩, (by repeat' (first | exact trivial | refine And.intro ⟨_, rfl, ?_⟩ ?_ | refine And.intro ⟨_, rfl⟩ ?_ | rfl | exact Box.ren_bytes _ _ _ _ | exact Box.ren_vals _ _ _ _ | exact Box.ren_mid rfl)), rfl, rfl⟩
end Go.Proofs.YtnomcmklhbjfjaaGreatDoor
end
section
namespace Go.Lg.Fld
open Go Go.Lg
end Go.Lg.Fld
namespace Go.Proofs.YtnomcmklhbjfjaaGreatDoor
open Go Go.Lg Go.Lg.Fld
set_option maxRecDepth 100000
variable (X : Nat → Option Obj)
end Go.Proofs.YtnomcmklhbjfjaaGreatDoor
end
section
namespace Go.Lg.Fld
open Go Go.Lg
theorem rowsZ_app : ∀ {a b : List Cp} {u v : List Value}, u.length = a.length → rowsZ (a ++ b) (u ++ v) = rowsZ a u ++ rowsZ b v
  | [], _, [], _, _ => rfl
  | _ :: a, b, _ :: u, v, h => by
    simp only [List.length_cons] at h
    simp only [List.cons_append, rowsZ]
    rw [rowsZ_app (a := a) (b := b) (u := u) (v := v) (by omega)]
  | [], _, _ :: _, _, h => by simp at h
  | _ :: _, _, [], _, h => by simp at h
theorem joinM_has {C : Ctx} {Y H : Nat → Option Obj} (hO : OwnedM C Y H) {b : Nat} {o : Obj} (h : Y b = some o) : joinM Y H b = some o := by
  cases hb : H b with
  | none => rw [joinM_out hb]; exact h
  | some o' => have := (hO.own b o' hb).2.2; rw [this] at h; cases h
def zer (k : Nat) : List Value := (List.replicate k [Value.int .i64 0, Value.string ⟨#[]⟩, Value.slice none 0 0]).flatten
theorem zer_succ (k : Nat) : zer (k + 1) = [Value.int .i64 0, Value.string ⟨#[]⟩, Value.slice none 0 0] ++ zer k := by unfold zer; rw [List.replicate_succ, List.flatten_cons]
theorem zer_len (k : Nat) : (zer k).length = k * 3 := by
  induction k with
  | zero => rfl
  | succ k ih => rw [zer_succ, List.length_append, ih]; simp; omega
def idM (ns : List Int) : List (Value × Value) := ns.map fun x => (.int .i64 x, .agg #[])
theorem idM_at (ns : List Int) (x : Int) : At (idM ns) (.int .i64 x) (.agg #[]) (.agg #[]) := by
  by_cases h : x ∈ ns
  · exact .inl (List.mem_map.2 ⟨x, h, rfl⟩)
  · refine .inr ⟨fun p hp e => ?_, rfl⟩
    obtain ⟨y, hy, rfl⟩ := List.mem_map.1 hp
    simp only [Value.int.injEq, true_and] at e
    exact h (e ▸ hy)
theorem idM_any (ns : List Int) (x : Int) (r : Bool) (hr : ns.any (fun m => m == x) = r) : r = true ↔ ∃ p ∈ idM ns, p.1 = .int .i64 x := by
  subst hr
  rw [List.any_eq_true]
  constructor
  · rintro ⟨m, hm, he⟩
    rw [beq_iff_eq] at he
    subst he
    exact ⟨_, List.mem_map.2 ⟨m, hm, rfl⟩, rfl⟩
  · rintro ⟨p, hp, e⟩
    obtain ⟨y, hy, rfl⟩ := List.mem_map.1 hp
    simp only [Value.int.injEq, true_and] at e
    exact ⟨y, hy, by rw [beq_iff_eq]; exact e⟩
theorem idM_put {ns : List Int} {x : Int} (h : ns.any (fun m => m == x) = false) : Put (idM ns) (.int .i64 x) (.agg #[]) (idM (ns ++ [x])) := by
  refine .inr ⟨fun p hp e => ?_, by unfold idM; rw [List.map_append]; rfl⟩
  obtain ⟨y, hy, rfl⟩ := List.mem_map.1 hp
  simp only [Value.int.injEq, true_and] at e
  rw [List.any_eq_false] at h
  exact h y hy (by rw [beq_iff_eq]; exact e)
theorem fields_none {X : Nat → Option Obj} {ad : Option Addr} {fs : List Fl} (h : fs = []) : FieldsIn X ad fs := by
  subst h
  exact ⟨fun k r hr => (by simp at hr), fun f hf => (by cases hf)⟩
theorem lent_fields {S : Nat → Option (Option Box)} {Y : Nat → Option Obj} {k n : Nat} {el : TypeId} {row : Bool} {fs : List Fl} {u : Value} (hk : S k = some (some ⟨el, (flV fs).map .val, row⟩)) (hs : ∀ f ∈ fs, (-9223372036854775808 ≤ f.kind ∧ f.kind < 9223372036854775808) ∧ (-9223372036854775808 ≤ f.count ∧ f.count < 9223372036854775808)) (h : LentC S Y (.slc k 0 n 3) u) :
    ∃ (fa : Addr) (fcap : Nat), u = .slice (some fa) n fcap ∧ FieldsIn Y (some fa) fs := by
  obtain ⟨b, blk, cap2, m, hk', rfl, hc, hfit, hB⟩ := h
  rw [hk] at hk'
  simp only [Option.some.injEq] at hk'
  subst hk'
  obtain ⟨arr, fr, us', sp, hYb, hsz, harr, hv⟩ := hB
  have := hv _ rfl
  subst this
  exact ⟨⟨blk, 0, none⟩, cap2, rfl, fields_block hYb harr hs⟩
end Go.Lg.Fld
namespace Go.Proofs.YtnomcmklhbjfjaaGreatDoor
open Go Go.Lg Go.Lg.Fld
set_option maxRecDepth 100000
section
variable {n : Nat} {C : Ctx} {X : Nat → Option Obj} {s : List (Nat × LV)} {bx : List (Nat × Option Box)} {k : Nat}
end
variable (X : Nat → Option Obj)
theorem fit_lent {S : Nat → Option (Option Box)} {k : Nat} {fs : List Fl} {vad : Option Addr} {vcap : Nat} {ns : List (Bool × Int)} {el : TypeId} {row : Bool} {e : Int} (hs : ∀ f ∈ fs, (-9223372036854775808 ≤ f.kind ∧ f.kind < 9223372036854775808) ∧ (-9223372036854775808 ≤ f.count ∧ f.count < 9223372036854775808)) (hbig : fs.length < 4611686018427387904) (hns : NumsIn X vad ns)
    (hk : S k = some (some ⟨el, (flV fs).map .val, row⟩)) (he : fitErr fs ns = e) :
    ∀ (Y : Nat → Option Obj) (us : List Value), (∀ b o, X b = some o → Y b = some o) → LentLs S Y [.sv (.one (.slc k 0 fs.length 3)), Lx vad ns.length vcap] us → PSpec Tryz.prog Y 73 (us.map toLV) (Ln .i64 e) := by
  intro Y us hY hL
  obtain ⟨u1, us1, rfl, h1, u2, us2, rfl, h2, rfl⟩ := hL
  have h2 : u2 = .slice vad ns.length vcap := h2
  subst h2
  obtain ⟨fa, fcap, rfl, hF⟩ := lent_fields hk hs h1
  subst he
  exact lFit_any Y (some fa) vad fcap vcap fs ns hF hbig ⟨hns.rows.mono hY, hns.in2⟩
theorem pPartBig (ver : Int) (ad vad : Option Addr) (cap vcap : Nat) (cs : List Cp) (p : Pt) (hin : CompsIn X ad cs) (hbig : cs.length < 4611686018427387904) (hfs : ∀ c ∈ cs, c.fs.length ≤ 65536) (hns : NumsIn X vad p.val) (e : Int) (he : partE cs p = e) :
    PSpec Tryz.prog X 61 [Sx ver ad cs.length cap, Px p vad vcap] (Ln .i64 e) := by
  subst he
  refine PSpec.intro Tryz.func61 rfl (by kernel_rfl) rfl rfl ?_
  intro C
  unfold partE
  rcases find_cases cs p.comp with ⟨i, c, hc, he, hpre⟩ | hno
  · rw [find_at hpre hc he]
    have hfb := hfs c (List.mem_of_getElem? hc)
    rcases pFind X ver ad cap cs p.comp hin hbig hfs hpre hc he with ⟨h0, hF⟩ | hF
    · have hR := lFit_any X none vad 0 vcap c.fs p.val (fields_none h0) (by omega) hns
      simp only
      generalize fitErr c.fs p.val = e at *
      (refine LWP.seq <| LWP.region (by kernel_rfl) <| K.box rfl rfl rfl .plain <| K.box rfl rfl rfl .plain <| kas rfl <| RunK.nil <| LWP.seq <| LWP.region (by kernel_rfl) <| K.loadAll rfl rfl rfl .plain ?_; refine kfa rfl rfl ?_; refine kl1 rfl rfl rfl <| kca rfl rfl hF <| kmv rfl <| kex rfl rfl <| kex rfl rfl <| K.alloc rfl .plain ?_; refine K.storeAll rfl rfl rfl rfl rfl rfl .plain ?_; refine kas rfl <| RunK.nil <| LWP.seq <| LWP.seq <| LWP.region (by kernel_rfl) <| kmv rfl <| K.not rfl rfl .plain <| RunK.nil <| LWP.condF rfl ?_; refine LWP.skip ?_; refine LWP.seq <| LWP.region (by kernel_rfl) <| kfa rfl rfl ?_; refine kl1 rfl rfl rfl <| kfa rfl rfl ?_; refine kl1 rfl rfl rfl <| kca rfl rfl (hR) <| kas rfl <| RunK.nil <| LWP.ret ?_)
      exact ⟨[_], ⟨rfl, trivial⟩, rfl⟩
    · obtain ⟨_, _, _, _, _, _, _, _, _, _, _, _, _, _, hFs⟩ := hin.get hc
      have hR := fun (S : Nat → Option (Option Box)) (hk : S 20 = some (some ⟨57, (flV c.fs).map .val, true⟩)) => fit_lent X (S := S) (k := 20) (vcap := vcap) hFs.small (by omega) hns hk rfl
      simp only
      generalize fitErr c.fs p.val = e at *
      (refine LWP.seq <| LWP.region (by kernel_rfl) <| K.box rfl rfl rfl .plain <| K.box rfl rfl rfl .plain <| kas rfl <| RunK.nil <| LWP.seq <| LWP.region (by kernel_rfl) <| K.loadAll rfl rfl rfl .plain ?_; refine kfa rfl rfl ?_; refine kl1 rfl rfl rfl <| K.callMp [(1000001, 20)] (.tup [SCs c 20, Sb true]) [fdB 20 c.fs] (hF) rfl rfl (by exact trivial) rfl rfl rfl rfl rfl (by exact (.box rfl (Box.ren_vals _ _ _ _) .nil)) .plain <| kmv rfl <| kex rfl rfl <| kex rfl rfl <| K.alloc rfl .plain ?_; refine K.storeAll rfl rfl rfl rfl rfl rfl .plain ?_; refine kas rfl <| RunK.nil <| LWP.seq <| LWP.seq <| LWP.region (by kernel_rfl) <| kmv rfl <| K.not rfl rfl .plain <| RunK.nil <| LWP.condF rfl ?_; refine LWP.skip ?_; refine LWP.seq <| LWP.region (by kernel_rfl) <| kfa rfl rfl ?_; refine kl1 rfl rfl rfl <| kfa rfl rfl ?_; refine kl1 rfl rfl rfl <| K.callL [20] rfl rfl rfl (hR _ rfl) .plain ?_; refine kas rfl <| RunK.nil <| LWP.ret ?_)
      exact ⟨[_], ⟨rfl, trivial⟩, rfl⟩
  · rw [find_no hno]
    have hF := pFind_no X ver ad cap cs p.comp hin hbig hno
    (refine LWP.seq <| LWP.region (by kernel_rfl) <| K.box rfl rfl rfl .plain <| K.box rfl rfl rfl .plain <| kas rfl <| RunK.nil <| LWP.seq <| LWP.region (by kernel_rfl) <| K.loadAll rfl rfl rfl .plain ?_; refine kfa rfl rfl ?_; refine kl1 rfl rfl rfl <| kca rfl rfl hF <| kmv rfl <| kex rfl rfl <| kex rfl rfl <| K.alloc rfl .plain ?_; refine K.storeAll rfl rfl rfl rfl rfl rfl .plain ?_; refine kas rfl <| RunK.nil <| LWP.seq <| LWP.seq <| LWP.region (by kernel_rfl) <| kmv rfl <| K.not rfl rfl .plain <| RunK.nil <| LWP.condT rfl ?_; refine LWP.seq <| LWP.region (by kernel_rfl) <| kas rfl <| RunK.nil <| LWP.ret ?_)
    exact ⟨[_], ⟨rfl, trivial⟩, rfl⟩
abbrev idBx (k : Nat) (ns : List Int) : Nat × Option Box := (k, some ⟨0, [], .res (mapR Tryz.prog 3 (idM ns))⟩)
set_option maxHeartbeats 3200000 in
theorem pPartsBig (ver : Int) (ad pad : Option Addr) (cap pcap : Nat) (cs : List Cp) (ps : List Pt) (hin : CompsIn X ad cs) (hbig : cs.length < 4611686018427387904) (hfs : ∀ c ∈ cs, c.fs.length ≤ 65536) (hps : PartsIn X pad ps) (hpb : ps.length < 4611686018427387904) (e : Int) (he : partsE cs ps = e) :
    PSpec Tryz.prog X 36 [Sx ver ad cs.length cap, Lx pad ps.length pcap] (Ln .i64 e) := by
  subst he
  refine PSpec.intro Tryz.func36 rfl (by kernel_rfl) rfl rfl ?_
  intro C
  (refine LWP.seq <| LWP.region (by kernel_rfl) <| K.box rfl rfl rfl .plain <| kas rfl <| RunK.nil <| LWP.seq <| LWP.region (by kernel_rfl) <| K.makeMap 3 rfl .plain ?_; refine kas rfl <| RunK.nil <| LWP.seq <| LWP.seq <| LWP.region (by kernel_rfl) <| kmv rfl <| K.lenX rfl SliceT.h rfl .plain ?_; refine kmv rfl <| RunK.nil <| LWP.block ?_)
  refine LWP.loop (fun m σ => ∃ i : Nat, i ≤ ps.length ∧ m = ps.length - i ∧ (∀ j, 0 ≤ j → j < i → ptE cs ps j = 0) ∧ σ = ⟨[(2, Lp 2), (5, Lmp 11), (12, Lx pad ps.length pcap), (13, Ln .i64 (ps.length : Nat)), (14, Ln .i64 (i : Nat))], [sxB 2 ver ad cs.length cap, idBx 11 ((ps.take i).map Pt.comp)], X⟩) ps.length
    ⟨_, Le.of (by exact ⟨rfl, rfl, rfl, rfl, rfl, trivial⟩) (by exact ⟨rfl, rfl, trivial⟩) (by exact rfl) (by exact rfl) (by repeat' (first | refine all_cons_true ?_ ?_ | rfl | exact bytes_inUse | exact vals_inUse | exact mid_inUse rfl)), 0, by omega, by omega, fun j _ hj => absurd hj (by omega), rfl⟩ ?_
  rintro m σ ⟨i, hi, rfl, hpre, rfl⟩
  by_cases hlt : i < ps.length
  · obtain ⟨p, hp⟩ : ∃ p, ps[i]? = some p := ⟨_, List.getElem?_eq_getElem hlt⟩
    obtain ⟨blk, off, arr, el, fr, vad, vcap, rfl, hX, hsz, hcs, _, _, hN⟩ := hps.get hp
    have hio : off + Int.toNat (i : Int) * 2 = off + i * 2 := by simp
    have hE := ptE_at (cs := cs) hp
    have hsm := hps.small p (List.mem_of_getElem? hp)
    have hkey : Go.keyOf Tryz.prog 3 (.int .i64 p.comp) = some (.int .i64 p.comp) := by
      rw [keyOf_int (q := .i64) (by kernel_rfl)]
      unfold mapKey
      rw [show Tryz.prog.underlying 3 = some (.int .i64) by kernel_rfl]
      have hw : (Lit.int .i64 p.comp).wf = true := by
        show (decide (IntKind.i64.min ≤ p.comp) && decide (p.comp ≤ IntKind.i64.max)) = true
        rw [show IntKind.i64.min = -9223372036854775808 from rfl, show IntKind.i64.max = 9223372036854775807 from rfl, decide_eq_true hsm.1, decide_eq_true (show p.comp ≤ 9223372036854775807 by omega)]; rfl
      simp [hw]
    have hat := idM_at ((ps.take i).map Pt.comp) p.comp
    have hP := pPartBig X ver ad vad cap vcap cs p hin hbig hfs hN (partE cs p) rfl
    have hany : ((ps.take i).map Pt.comp).any (fun m => m == p.comp) = (ps.take i).any (fun g => g.comp == p.comp) := by rw [List.any_map]; rfl
    have hts : (ps.take (i + 1)).map Pt.comp = (ps.take i).map Pt.comp ++ [p.comp] := by rw [take_snoc hp, List.map_append]; rfl
    cases hin2 : (ps.take i).any (fun g => g.comp == p.comp) with
    | true =>
      rw [hin2] at hE hany
      rw [if_pos rfl] at hE
      rw [show partsE cs ps = 1 from firstE_some hpre (Nat.zero_le _) (by omega) hE (by decide)]
      have hr := idM_any _ p.comp true hany
      generalize (ps.take i).map Pt.comp = ns at *
      (refine LWP.seq <| LWP.region (by kernel_rfl) <| klt rfl rfl (decide_eq_true (by omega)) <| RunK.nil <| LWP.seq <| LWP.condT rfl ?_; refine LWP.skip ?_; refine LWP.seq <| LWP.block <| LWP.seq <| LWP.region (by kernel_rfl) <| K.indexX rfl rfl SliceT.h (by omega) hio .plain <| K.loadXagg rfl hX (by kernel_rfl) hsz hcs .plain <| K.alloc rfl .plain ?_; refine K.storeAll rfl rfl rfl rfl rfl rfl .plain ?_; refine RunK.nil <| LWP.seq <| LWP.seq <| LWP.region (by kernel_rfl) <| kmv rfl <| kfa rfl rfl ?_; refine kl1 rfl rfl rfl <| K.lookupOk (et := 114) (.agg []) (v := .agg #[]) (z := .agg #[]) rfl rfl rfl (by kernel_rfl) (KL.int (q := .i64) (by kernel_rfl)) hkey (by kernel_rfl) hat agg0_rel hr .plain ?_; refine kmv rfl <| kex rfl rfl <| kex rfl rfl <| K.alloc rfl .plain ?_; refine K.storeAll rfl rfl rfl rfl rfl rfl .plain ?_; refine kas rfl <| RunK.nil <| LWP.seq <| LWP.region (by kernel_rfl) <| kmv rfl <| RunK.nil <| LWP.condT rfl ?_; refine LWP.seq <| LWP.region (by kernel_rfl) <| kas rfl <| RunK.nil <| LWP.ret ?_)
      exact ⟨[_], ⟨rfl, trivial⟩, rfl⟩
    | false =>
      rw [hin2] at hE hany
      rw [if_neg (by decide)] at hE
      have hr := idM_any _ p.comp false hany
      have hput := idM_put hany
      rw [← hts] at hput
      generalize (ps.take i).map Pt.comp = ns at *
      generalize hns : (ps.take (i + 1)).map Pt.comp = ns' at *
      by_cases he0 : partE cs p = 0
      · rw [he0] at hP hE
        (refine LWP.seq <| LWP.region (by kernel_rfl) <| klt rfl rfl (decide_eq_true (by omega)) <| RunK.nil <| LWP.seq <| LWP.condT rfl ?_; refine LWP.skip ?_; refine LWP.seq <| LWP.block <| LWP.seq <| LWP.region (by kernel_rfl) <| K.indexX rfl rfl SliceT.h (by omega) hio .plain <| K.loadXagg rfl hX (by kernel_rfl) hsz hcs .plain <| K.alloc rfl .plain ?_; refine K.storeAll rfl rfl rfl rfl rfl rfl .plain ?_; refine RunK.nil <| LWP.seq <| LWP.seq <| LWP.region (by kernel_rfl) <| kmv rfl <| kfa rfl rfl ?_; refine kl1 rfl rfl rfl <| K.lookupOk (et := 114) (.agg []) (v := .agg #[]) (z := .agg #[]) rfl rfl rfl (by kernel_rfl) (KL.int (q := .i64) (by kernel_rfl)) hkey (by kernel_rfl) hat agg0_rel hr .plain ?_; refine kmv rfl <| kex rfl rfl <| kex rfl rfl <| K.alloc rfl .plain ?_; refine K.storeAll rfl rfl rfl rfl rfl rfl .plain ?_; refine kas rfl <| RunK.nil <| LWP.seq <| LWP.region (by kernel_rfl) <| kmv rfl <| RunK.nil <| LWP.condF rfl ?_; refine LWP.skip ?_; refine LWP.seq <| LWP.region (by kernel_rfl) <| kmv rfl <| kfa rfl rfl ?_; refine kl1 rfl rfl rfl <| K.build rfl rfl (by exact rfl) (by exact nl0 rfl) .plain ?_; refine K.mapPut (et := 114) (idM ns') rfl rfl rfl rfl (by kernel_rfl) (KL.int (q := .i64) (by kernel_rfl)) hkey hput .plain ?_; refine RunK.nil <| LWP.seq <| LWP.region (by kernel_rfl) <| K.loadAll rfl rfl rfl .plain ?_; refine K.loadAll rfl rfl rfl .plain ?_; refine kca rfl rfl hP <| kas rfl <| RunK.nil <| LWP.seq <| LWP.region (by kernel_rfl) <| kmv rfl <| kne rfl rfl ((bne_eq_false_iff_eq.2 (by omega))) <| RunK.nil <| LWP.condF rfl ?_; refine LWP.skip ?_; refine LWP.region (by kernel_rfl) <| kad rfl rfl (wrap_i64 (by omega)) <| kmv rfl <| RunK.nil ?_)
        subst hns
        exact ⟨_, _, by omega, Le.of (by exact ⟨rfl, rfl, rfl, rfl, rfl, trivial⟩) (by exact ⟨rfl, rfl, trivial⟩) (by exact rfl) (by exact rfl) (by repeat' (first | refine all_cons_true ?_ ?_ | rfl | exact bytes_inUse | exact vals_inUse | exact mid_inUse rfl)), i + 1, by omega, rfl, (fun j h0 hj => by
          by_cases e : j = i
          · rw [e]; exact hE
          · exact hpre j h0 (by omega)), rfl⟩
      · rw [show partsE cs ps = partE cs p from firstE_some hpre (Nat.zero_le _) (by omega) hE he0]
        have hne : (partE cs p != 0) = true := by rw [bne_iff_ne]; exact he0
        generalize partE cs p = E at *
        (refine LWP.seq <| LWP.region (by kernel_rfl) <| klt rfl rfl (decide_eq_true (by omega)) <| RunK.nil <| LWP.seq <| LWP.condT rfl ?_; refine LWP.skip ?_; refine LWP.seq <| LWP.block <| LWP.seq <| LWP.region (by kernel_rfl) <| K.indexX rfl rfl SliceT.h (by omega) hio .plain <| K.loadXagg rfl hX (by kernel_rfl) hsz hcs .plain <| K.alloc rfl .plain ?_; refine K.storeAll rfl rfl rfl rfl rfl rfl .plain ?_; refine RunK.nil <| LWP.seq <| LWP.seq <| LWP.region (by kernel_rfl) <| kmv rfl <| kfa rfl rfl ?_; refine kl1 rfl rfl rfl <| K.lookupOk (et := 114) (.agg []) (v := .agg #[]) (z := .agg #[]) rfl rfl rfl (by kernel_rfl) (KL.int (q := .i64) (by kernel_rfl)) hkey (by kernel_rfl) hat agg0_rel hr .plain ?_; refine kmv rfl <| kex rfl rfl <| kex rfl rfl <| K.alloc rfl .plain ?_; refine K.storeAll rfl rfl rfl rfl rfl rfl .plain ?_; refine kas rfl <| RunK.nil <| LWP.seq <| LWP.region (by kernel_rfl) <| kmv rfl <| RunK.nil <| LWP.condF rfl ?_; refine LWP.skip ?_; refine LWP.seq <| LWP.region (by kernel_rfl) <| kmv rfl <| kfa rfl rfl ?_; refine kl1 rfl rfl rfl <| K.build rfl rfl (by exact rfl) (by exact nl0 rfl) .plain ?_; refine K.mapPut (et := 114) (idM ns') rfl rfl rfl rfl (by kernel_rfl) (KL.int (q := .i64) (by kernel_rfl)) hkey hput .plain ?_; refine RunK.nil <| LWP.seq <| LWP.region (by kernel_rfl) <| K.loadAll rfl rfl rfl .plain ?_; refine K.loadAll rfl rfl rfl .plain ?_; refine kca rfl rfl hP <| kas rfl <| RunK.nil <| LWP.seq <| LWP.region (by kernel_rfl) <| kmv rfl <| kne rfl rfl hne <| RunK.nil <| LWP.condT rfl ?_; refine LWP.seq <| LWP.region (by kernel_rfl) <| kmv rfl <| kas rfl <| RunK.nil <| LWP.ret ?_)
        exact ⟨[_], ⟨rfl, trivial⟩, rfl⟩
  · rw [show partsE cs ps = 0 from firstE_none fun j h0 hj => hpre j h0 (by omega)]
    (refine LWP.seq <| LWP.region (by kernel_rfl) <| klt rfl rfl (decide_eq_false (by omega)) <| RunK.nil <| LWP.seq <| LWP.condF rfl ?_; refine LWP.exit <| LWP.seq <| LWP.region (by kernel_rfl) <| kas rfl <| RunK.nil <| LWP.ret ?_)
    exact ⟨[_], ⟨rfl, trivial⟩, rfl⟩
end Go.Proofs.YtnomcmklhbjfjaaGreatDoor
end
section

end
section
namespace Go.Proofs.YtnomcmklhbjfjaaGreatDoor
open Go Go.Lg Go.Lg.Fld Go.RowKit Go.ChangeShapes Go.WideShapes Go.Joins
set_option maxRecDepth 100000
section
variable {H : Type} {enc : TypeId × Value → H} {w : World}
end
end Go.Proofs.YtnomcmklhbjfjaaGreatDoor
end
section
namespace Go.Proofs.YtnomcmklhbjfjaaGreatDoor
open Go Go.Lg Go.Lg.Fld
set_option maxRecDepth 100000
variable (X : Nat → Option Obj)
end Go.Proofs.YtnomcmklhbjfjaaGreatDoor
end
section
namespace Go.Proofs.YtnomcmklhbjfjaaGreatDoor
open Go Go.Lg Go.Lg.Fld
set_option maxRecDepth 100000
theorem rows_in {Y : Nat → Option Obj} {blk : Nat} {arr : Array Value} {el : TypeId} {fr : Nat × Nat} {sz : Nat} {rows : List (List Value)} (hY : Y blk = some (.cells arr el fr)) (hl : ∀ r ∈ rows, r.length = sz) (hsp : ∃ sp, arr.toList = rows.flatten ++ sp) : Go.Lg.RowsIn Y (some ⟨blk, 0, none⟩) sz rows := fun i r hi => by
  obtain ⟨sp, e⟩ := hsp
  obtain ⟨h1, h2⟩ := flat_row hl (sp := sp) hi
  refine ⟨blk, 0, arr, el, fr, rfl, hY, ?_, ?_⟩
  · rw [← Array.length_toList, e]; omega
  · rw [e, Nat.zero_add]; exact h2
theorem nums_in {Y : Nat → Option Obj} {blk : Nat} {arr : Array Value} {el : TypeId} {fr : Nat × Nat} {zs : List Int} (hY : Y blk = some (.cells arr el fr)) (h : ∀ z ∈ zs, R127 z) (hsp : ∃ sp, arr.toList = nsV zs ++ sp) : NumsIn Y (some ⟨blk, 0, none⟩) (zs.map qn) :=
  ⟨rows_in hY (fun r hr => by obtain ⟨n, _, rfl⟩ := List.mem_map.1 hr; rfl) (by
    obtain ⟨sp, e⟩ := hsp
    exact ⟨sp, by rw [e, List.map_map]; rfl⟩), nums_in2 h⟩
variable (X : Nat → Option Obj)
end Go.Proofs.YtnomcmklhbjfjaaGreatDoor
end
section
namespace Go.Lg.Fld
open Go Go.Lg
theorem any_at {α : Type} {p : α → Bool} {l : List α} {i : Nat} {x : α} (h : l[i]? = some x) (hp : p x = true) : l.any p = true := List.any_eq_true.2 ⟨x, List.mem_of_getElem? h, hp⟩
theorem any_no {α : Type} {p : α → Bool} {l : List α} (h : ∀ (j : Nat) (y : α), l[j]? = some y → p y = false) : l.any p = false := by
  rw [List.any_eq_false]
  intro y hy
  obtain ⟨j, hj⟩ := List.mem_iff_getElem?.1 hy
  rw [h j y hj]; simp
end Go.Lg.Fld
namespace Go.Proofs.YtnomcmklhbjfjaaGreatDoor
open Go Go.Lg Go.Lg.Fld
set_option maxRecDepth 100000
variable (X : Nat → Option Obj)
def cs0 : List Cp := [⟨1, [112, 111, 115], [⟨[120], 3, 1⟩, ⟨[121], 3, 1⟩]⟩, ⟨3, [116, 97, 103], []⟩]
end Go.Proofs.YtnomcmklhbjfjaaGreatDoor
end
section
namespace Go.Proofs.YtnomcmklhbjfjaaGreatDoor
open Go Go.Lg Go.Lg.Fld
set_option maxRecDepth 100000
variable (X : Nat → Option Obj)
theorem same_retrofitref07 (Y : Nat → Option Obj) (a b : Sc) (ad ad2 : Option Addr) (cap cap2 : Nat) (ha : CompsIn Y ad a.cs) (hb : CompsIn Y ad2 b.cs) (hS : SmallC a.cs) (_ : SmallC b.cs) (r : Bool) (hr : decide (a = b) = r) : PSpec Tryz.prog Y 14 [Sx a.ver ad a.cs.length cap, Sx b.ver ad2 b.cs.length cap2] (Lb r) := sSame_spec Y a b ad ad2 cap cap2 ha hb (by have := hS.1; omega) (fun c hc => by have := (hS.2 c hc).1; omega) r hr
theorem same_lent_retrofitref07 {S : Nat → Option (Option Box)} {ver : Int} {ad : Option Addr} {cap k : Nat} {cs : List Cp} {e : TypeId} {cc : List CV} (hin : CompsIn X ad cs) (hS : SmallC cs) (hk : S k = some (some ⟨e, cc, .res (scR cs)⟩)) :
    ∀ (Y : Nat → Option Obj) (us : List Value), (∀ b o, X b = some o → Y b = some o) → LentLs S Y [Sx ver ad cs.length cap, .sv (.agg [.val (.int .i64 ver), .slc k 0 cs.length 3])] us → PSpec Tryz.prog Y 14 (us.map toLV) (Lb true) := by
  intro Y us hY hL
  obtain ⟨u1, us1, rfl, ⟨av, rfl, a1, av1, rfl, h1, a2, as2, rfl, h2, rfl⟩, u2, us2, rfl, ⟨bs, rfl, b1, bs1, rfl, h3, b2, bs2, rfl, ⟨b, blk, cap2, m, hk', rfl, hc, hfit, hB⟩, rfl⟩, rfl⟩ := hL
  have h1 : a1 = .int .i64 ver := h1
  have h2 : a2 = .slice ad cs.length cap := h2
  have h3 : b1 = .int .i64 ver := h3
  subst h1 h2 h3
  rw [hk] at hk'
  simp only [Option.some.injEq] at hk'
  subst hk'
  obtain ⟨H, hR, hHY⟩ := hB
  exact same_retrofitref07 Y ⟨ver, cs⟩ ⟨ver, cs⟩ ad (some ⟨blk, 0, none⟩) cap cap2 (hin.mono hY) (scR_in hR hHY) hS hS true (decide_eq_true rfl)
end Go.Proofs.YtnomcmklhbjfjaaGreatDoor
end
section
namespace Go.Lg.Fld
open Go Go.Lg
def Scan {α : Type} (p : α → Bool) (l : List α) (k : Nat) (v : Int) : Prop := (v = -1 ∧ ∀ (m : Nat) (y : α), k ≤ m → l[m]? = some y → p y = false) ∨ ∃ (i : Nat) (c : α), v = (i : Nat) ∧ l[i]? = some c ∧ p c = true ∧ ∀ (m : Nat) (y : α), k ≤ m → m < i → l[m]? = some y → p y = false
theorem Scan.hit {α : Type} {p : α → Bool} {l : List α} {k : Nat} {y : α} (hy : l[k]? = some y) (hp : p y = true) : Scan p l k (k : Nat) := .inr ⟨k, y, rfl, hy, hp, fun m y hm hk => by omega⟩
end Go.Lg.Fld
namespace Go.Proofs.YtnomcmklhbjfjaaGreatDoor
open Go Go.Lg Go.Lg.Fld
set_option maxRecDepth 100000
variable (X : Nat → Option Obj)
end Go.Proofs.YtnomcmklhbjfjaaGreatDoor
end
section
namespace Go.Proofs.YtnomcmklhbjfjaaGreatDoor
open Go Go.Lg Go.Lg.Fld
set_option maxRecDepth 100000
variable (X : Nat → Option Obj)
end Go.Proofs.YtnomcmklhbjfjaaGreatDoor
end
section
namespace Go.Lg.Fld
open Go Go.Lg
structure Good (cs : List Cp) : Prop where
  one : ∀ (i : Nat) (c : Cp), cs[i]? = some c → 1 ≤ c.id ∧ c.id ≤ 24 ∧ nmB c.nm = true ∧ firstE (fldE c.fs) 0 c.fs.length = 0 ∧ layErr c.fs = 0
  two : ∀ (i j : Nat) (c d : Cp), i < j → cs[i]? = some c → cs[j]? = some d → c.id < d.id ∧ c.nm ≠ d.nm
theorem good_of {cs : List Cp} (h : firstE (cmpE cs) 0 cs.length = 0) : Good cs := by
  have h0 : ∀ (i : Nat) (c : Cp), cs[i]? = some c → ¬(c.id < 1 ∨ 24 < c.id ∨ (0 < i ∧ c.id ≤ prevId cs i)) ∧ nmB c.nm = true ∧ (cs.take i).any (fun g => g.nm == c.nm) = false ∧ firstE (fldE c.fs) 0 c.fs.length = 0 ∧ layErr c.fs = 0 := fun i c hc => by
    have hi := (List.getElem?_eq_some_iff.1 hc).1
    have h1 := firstE_zero h i (Nat.zero_le _) (by omega)
    rw [cmpE_at hc] at h1
    by_cases b1 : c.id < 1 ∨ 24 < c.id ∨ (0 < i ∧ c.id ≤ prevId cs i)
    · rw [if_pos b1] at h1; cases h1
    · rw [if_neg b1] at h1
      by_cases b2 : nmB c.nm = true
      · rw [if_pos b2] at h1
        by_cases b3 : (cs.take i).any (fun g => g.nm == c.nm) = true
        · rw [if_pos b3] at h1; cases h1
        · rw [if_neg b3] at h1
          by_cases b4 : firstE (fldE c.fs) 0 c.fs.length = 0
          · rw [if_pos b4] at h1
            exact ⟨b1, b2, by simpa using b3, b4, h1⟩
          · rw [if_neg b4] at h1; cases h1
      · rw [if_neg b2] at h1; cases h1
  refine ⟨fun i c hc => ?_, fun i j c d hij hc hd => ⟨?_, fun e => ?_⟩⟩
  · obtain ⟨h1, h2, _, h4, h5⟩ := h0 i c hc
    exact ⟨by omega, by omega, h2, h4, h5⟩
  · obtain ⟨k, rfl⟩ : ∃ k, j = i + 1 + k := ⟨j - (i + 1), by omega⟩
    induction k generalizing d with
    | zero =>
      obtain ⟨h1, _⟩ := h0 _ d hd
      have hp : cs[i + 1 + 0 - 1]? = some c := hc
      have := prev_at hp
      omega
    | succ k ih =>
      obtain ⟨d', hd'⟩ : ∃ d', cs[i + 1 + k]? = some d' := ⟨_, List.getElem?_eq_getElem (by have := (List.getElem?_eq_some_iff.1 hd).1; omega)⟩
      have h2 := ih d' (by omega) hd'
      obtain ⟨h1, _⟩ := h0 _ d hd
      have hp : cs[i + 1 + (k + 1) - 1]? = some d' := hd'
      have := prev_at hp
      omega
  · obtain ⟨_, _, h3, _⟩ := h0 j d hd
    have := any_true (p := fun g : Cp => g.nm == d.nm) hij hc (by rw [beq_iff_eq]; exact e)
    rw [h3] at this; cases this
end Go.Lg.Fld
end
section
namespace Go.Lg.Fld
open Go Go.Lg
def by8 (n : Int) : UInt8 := UInt8.ofNat (n % 256).toNat
theorem by8_nat {n : Int} (h : 0 ≤ n ∧ n < 256) : ((by8 n).toNat : Int) = n := by
  unfold by8
  rw [UInt8.toNat_ofNat']
  omega
theorem by8_of (c : UInt8) : by8 (c.toNat : Nat) = c := by
  have h : c.toNat < 256 := c.toNat_lt
  apply UInt8.toNat_inj.1
  unfold by8
  rw [UInt8.toNat_ofNat']
  omega
def encT (nm : List UInt8) : List UInt8 := by8 nm.length :: nm
def encF (f : Fl) : List UInt8 := encT f.nm ++ [by8 f.kind, by8 f.count]
def encFs : List Fl → List UInt8
  | [] => []
  | f :: t => encF f ++ encFs t
def encC (c : Cp) : List UInt8 := by8 c.id :: encT c.nm ++ by8 c.fs.length :: encFs c.fs
def encCs : List Cp → List UInt8
  | [] => []
  | c :: t => encC c ++ encCs t
def encS (s : Sc) : List UInt8 := [83, by8 s.ver, by8 (s.ver / 256), by8 (s.ver / 65536), by8 (s.ver / 16777216), by8 s.cs.length] ++ encCs s.cs
theorem encFs_app : ∀ (a b : List Fl), encFs (a ++ b) = encFs a ++ encFs b
  | [], _ => rfl
  | f :: t, b => by simp only [List.cons_append, encFs, encFs_app t b, List.append_assoc]
theorem encCs_app : ∀ (a b : List Cp), encCs (a ++ b) = encCs a ++ encCs b
  | [], _ => rfl
  | f :: t, b => by simp only [List.cons_append, encCs, encCs_app t b, List.append_assoc]
def getT : List UInt8 → Option (List UInt8 × List UInt8)
  | [] => none
  | n :: r => if n.toNat ≤ r.length then some (r.take n.toNat, r.drop n.toNat) else none
def getF (b : List UInt8) : Option (Fl × List UInt8) := match getT b with
  | some (nm, k :: c :: r) => some (⟨nm, (k.toNat : Nat), (c.toNat : Nat)⟩, r)
  | _ => none
def getFs : Nat → List UInt8 → Option (List Fl × List UInt8)
  | 0, b => some ([], b)
  | n + 1, b => match getF b with
    | some (f, r) => match getFs n r with
      | some (fs, r') => some (f :: fs, r')
      | none => none
    | none => none
def getC (b : List UInt8) : Option (Cp × List UInt8) := match b with
  | [] => none
  | i :: r => match getT r with
    | some (nm, m :: r2) => match getFs m.toNat r2 with
      | some (fs, r3) => some (⟨(i.toNat : Nat), nm, fs⟩, r3)
      | none => none
    | _ => none
def getCs : Nat → List UInt8 → Option (List Cp × List UInt8)
  | 0, b => some ([], b)
  | n + 1, b => match getC b with
    | some (c, r) => match getCs n r with
      | some (cs, r') => some (c :: cs, r')
      | none => none
    | none => none
def verOf (a b c d : UInt8) : Int := (a.toNat + b.toNat * 256 + c.toNat * 65536 + d.toNat * 16777216 : Nat)
def decS (b : List UInt8) : Option Sc := match b with
  | m :: v0 :: v1 :: v2 :: v3 :: n :: r => if m = 83 then (match getCs n.toNat r with
    | some (cs, []) => if chkE ⟨verOf v0 v1 v2 v3, cs⟩ = 0 then some ⟨verOf v0 v1 v2 v3, cs⟩ else none
    | _ => none) else none
  | _ => none
def okT (nm : List UInt8) : Prop := nm.length < 256
def okF (f : Fl) : Prop := okT f.nm ∧ (0 ≤ f.kind ∧ f.kind < 256) ∧ (0 ≤ f.count ∧ f.count < 256)
def okC (c : Cp) : Prop := (0 ≤ c.id ∧ c.id < 256) ∧ okT c.nm ∧ c.fs.length < 256 ∧ ∀ f ∈ c.fs, okF f
theorem ok_of_check {s : Sc} (h : chkE s = 0) : (1 ≤ s.ver ∧ s.ver ≤ 1073741824) ∧ s.cs.length ≤ 24 ∧ ∀ c ∈ s.cs, okC c := by
  unfold chkE at h
  by_cases hv : s.ver < 1 ∨ 1073741824 < s.ver
  · rw [if_pos hv] at h; cases h
  rw [if_neg hv] at h
  have g := good_of h
  have hnm : ∀ l : List UInt8, nmB l = true → l.length ≤ 12 := fun l hl => by
    unfold nmB at hl
    simp only [Bool.and_eq_true, decide_eq_true_eq] at hl
    exact hl.1.2
  have hid : ∀ (i : Nat) (c : Cp), s.cs[i]? = some c → (i : Int) + 1 ≤ c.id := by
    intro i
    induction i with
    | zero => intro c hc; have := (g.one 0 c hc).1; omega
    | succ i ih =>
      intro c hc
      obtain ⟨d, hd⟩ : ∃ d, s.cs[i]? = some d := ⟨_, List.getElem?_eq_getElem (by have := (List.getElem?_eq_some_iff.1 hc).1; omega)⟩
      have h1 := ih d hd
      have h2 := (g.two i (i + 1) d c (by omega) hd hc).1
      omega
  refine ⟨by omega, ?_, fun c hc => ?_⟩
  · by_cases h0 : s.cs.length = 0
    · omega
    · obtain ⟨d, hd⟩ : ∃ d, s.cs[s.cs.length - 1]? = some d := ⟨_, List.getElem?_eq_getElem (by omega)⟩
      have h1 := hid _ d hd
      have h2 := (g.one _ d hd).2.1
      omega
  · obtain ⟨i, hi⟩ := List.mem_iff_getElem?.1 hc
    obtain ⟨h1, h2, h3, h4, h5⟩ := g.one i c hi
    obtain ⟨h8, hall, _⟩ := Go.Proofs.YtnomcmklhbjfjaaGreatDoor.layErr_facts h5
    refine ⟨by omega, by have := hnm _ h3; unfold okT; omega, by omega, fun f hf => ?_⟩
    obtain ⟨k, hk⟩ := List.mem_iff_getElem?.1 hf
    have e1 := firstE_zero h4 k (Nat.zero_le _) (by have := (List.getElem?_eq_some_iff.1 hk).1; omega)
    rw [fldE_at hk] at e1
    have hfn : nmB f.nm = true := by
      by_cases hfn : nmB f.nm = true
      · exact hfn
      · rw [if_neg hfn] at e1; cases e1
    have hok := List.all_eq_true.1 hall f hf
    unfold Fl.ok at hok
    simp only [Bool.and_eq_true, decide_eq_true_eq] at hok
    refine ⟨by have := hnm _ hfn; unfold okT; omega, ?_, by omega⟩
    have := (kK_iff _).1 hok.1
    omega
end Go.Lg.Fld
end
section
namespace Go.Lg.Fld
open Go Go.Lg
theorem by8_wrap (n : Int) : IntKind.u8.wrap n = (((by8 n).toNat : Nat) : Int) := by
  unfold by8
  rw [IntKind.wrap_u8, UInt8.toNat_ofNat']
  omega
theorem encFs_len : ∀ {fs : List Fl}, (∀ f ∈ fs, okF f) → (encFs fs).length ≤ fs.length * 258
  | [], _ => by simp [encFs]
  | f :: t, h => by
    have h1 := encFs_len (fs := t) fun g hg => h g (by simp [hg])
    have h2 := (h f (by simp)).1
    unfold okT at h2
    simp only [encFs, encF, encT, List.length_append, List.length_cons, List.length_nil]
    omega
theorem encC_len {c : Cp} (h : okC c) : (encC c).length ≤ 70000 := by
  obtain ⟨h1, h2, h3, h4⟩ := h
  have h5 := encFs_len h4
  unfold okT at h2
  simp only [encC, encT, List.length_append, List.length_cons, List.cons_append]
  omega
theorem encCs_len : ∀ {cs : List Cp}, (∀ c ∈ cs, okC c) → (encCs cs).length ≤ cs.length * 70000
  | [], _ => by simp [encCs]
  | c :: t, h => by
    have h1 := encCs_len (cs := t) fun g hg => h g (by simp [hg])
    have h2 := encC_len (h c (by simp))
    simp only [encCs, List.length_append, List.length_cons]
    omega
theorem encCs_snoc {cs : List Cp} {i : Nat} {c : Cp} (h : cs[i]? = some c) : encCs (cs.take (i + 1)) = encCs (cs.take i) ++ encC c := by rw [take_snoc h, encCs_app]; simp [encCs]
theorem encFs_snoc {fs : List Fl} {i : Nat} {f : Fl} (h : fs[i]? = some f) : encFs (fs.take (i + 1)) = encFs (fs.take i) ++ encF f := by rw [take_snoc h, encFs_app]; simp [encFs]
end Go.Lg.Fld
namespace Go.Proofs.YtnomcmklhbjfjaaGreatDoor
open Go Go.Lg Go.Lg.Fld
set_option maxRecDepth 100000
variable (X : Nat → Option Obj)
theorem drop_cons {l : List UInt8} {i : Nat} {c : UInt8} (h : l[i]? = some c) : l.drop i = c :: l.drop (i + 1) := by
  obtain ⟨hi, e⟩ := List.getElem?_eq_some_iff.1 h
  rw [← e, List.getElem_cons_drop]
end Go.Proofs.YtnomcmklhbjfjaaGreatDoor
end
section
namespace Go.Proofs.YtnomcmklhbjfjaaGreatDoor
open Go Go.Lg Go.Lg.Fld
set_option maxRecDepth 100000
variable (X : Nat → Option Obj)
end Go.Proofs.YtnomcmklhbjfjaaGreatDoor
end
section
namespace Go.Proofs.YtnomcmklhbjfjaaGreatDoor
open Go Go.Lg Go.Lg.Fld
set_option maxRecDepth 100000
variable (X : Nat → Option Obj)
end Go.Proofs.YtnomcmklhbjfjaaGreatDoor
end
section
namespace Go.Lg.Fld
open Go Go.Lg
end Go.Lg.Fld
namespace Go.Proofs.YtnomcmklhbjfjaaGreatDoor
open Go Go.Lg Go.Lg.Fld
set_option maxRecDepth 100000
section
variable {P : Program} {n : Nat} {C : Ctx} {c : Code} {Q : Exit → St → Prop} {X : Nat → Option Obj} {s : List (Nat × LV)} {bx : List (Nat × Option Box)} {k j : Nat}
end
end Go.Proofs.YtnomcmklhbjfjaaGreatDoor
end
section
namespace Go.Lg.Fld
open Go Go.Lg
theorem getCs_step : ∀ {i : Nat} {b r r2 : List UInt8} {cs : List Cp} {c : Cp}, getCs i b = some (cs, r) → getC r = some (c, r2) → getCs (i + 1) b = some (cs ++ [c], r2)
  | 0, b, r, r2, cs, c, h, hc => by
    simp only [getCs, Option.some.injEq, Prod.mk.injEq] at h
    obtain ⟨rfl, rfl⟩ := h
    simp only [getCs, hc, List.nil_append]
  | i + 1, b, r, r2, cs, c, h, hc => by
    rw [getCs] at h
    rw [getCs]
    cases hg : getC b with
    | none => rw [hg] at h; simp at h
    | some p =>
      obtain ⟨d, b2⟩ := p
      rw [hg] at h
      simp only at h ⊢
      cases hk : getCs i b2 with
      | none => rw [hk] at h; simp at h
      | some q =>
        obtain ⟨ds, b3⟩ := q
        rw [hk] at h
        simp only [Option.some.injEq, Prod.mk.injEq] at h
        obtain ⟨rfl, rfl⟩ := h
        rw [getCs_step hk hc]
        rfl
theorem getCs_fail : ∀ {i k : Nat} {b r : List UInt8} {cs : List Cp}, getCs i b = some (cs, r) → getC r = none → getCs (i + 1 + k) b = none
  | 0, k, b, r, cs, h, hc => by
    simp only [getCs, Option.some.injEq, Prod.mk.injEq] at h
    obtain ⟨rfl, rfl⟩ := h
    rw [show 0 + 1 + k = k + 1 by omega, getCs, hc]
  | i + 1, k, b, r, cs, h, hc => by
    rw [getCs] at h
    rw [show i + 1 + 1 + k = (i + 1 + k) + 1 by omega, getCs]
    cases hg : getC b with
    | none => rfl
    | some p =>
      obtain ⟨d, b2⟩ := p
      rw [hg] at h
      simp only at h ⊢
      cases hk : getCs i b2 with
      | none => rw [hk] at h; simp at h
      | some q =>
        obtain ⟨ds, b3⟩ := q
        rw [hk] at h
        simp only [Option.some.injEq, Prod.mk.injEq] at h
        obtain ⟨rfl, rfl⟩ := h
        rw [getCs_fail hk hc]
theorem getFs_step : ∀ {i : Nat} {b r r2 : List UInt8} {cs : List Fl} {c : Fl}, getFs i b = some (cs, r) → getF r = some (c, r2) → getFs (i + 1) b = some (cs ++ [c], r2)
  | 0, b, r, r2, cs, c, h, hc => by
    simp only [getFs, Option.some.injEq, Prod.mk.injEq] at h
    obtain ⟨rfl, rfl⟩ := h
    simp only [getFs, hc, List.nil_append]
  | i + 1, b, r, r2, cs, c, h, hc => by
    rw [getFs] at h
    rw [getFs]
    cases hg : getF b with
    | none => rw [hg] at h; simp at h
    | some p =>
      obtain ⟨d, b2⟩ := p
      rw [hg] at h
      simp only at h ⊢
      cases hk : getFs i b2 with
      | none => rw [hk] at h; simp at h
      | some q =>
        obtain ⟨ds, b3⟩ := q
        rw [hk] at h
        simp only [Option.some.injEq, Prod.mk.injEq] at h
        obtain ⟨rfl, rfl⟩ := h
        rw [getFs_step hk hc]
        rfl
theorem getFs_fail : ∀ {i k : Nat} {b r : List UInt8} {cs : List Fl}, getFs i b = some (cs, r) → getF r = none → getFs (i + 1 + k) b = none
  | 0, k, b, r, cs, h, hc => by
    simp only [getFs, Option.some.injEq, Prod.mk.injEq] at h
    obtain ⟨rfl, rfl⟩ := h
    rw [show 0 + 1 + k = k + 1 by omega, getFs, hc]
  | i + 1, k, b, r, cs, h, hc => by
    rw [getFs] at h
    rw [show i + 1 + 1 + k = (i + 1 + k) + 1 by omega, getFs]
    cases hg : getF b with
    | none => rfl
    | some p =>
      obtain ⟨d, b2⟩ := p
      rw [hg] at h
      simp only at h ⊢
      cases hk : getFs i b2 with
      | none => rw [hk] at h; simp at h
      | some q =>
        obtain ⟨ds, b3⟩ := q
        rw [hk] at h
        simp only [Option.some.injEq, Prod.mk.injEq] at h
        obtain ⟨rfl, rfl⟩ := h
        rw [getFs_fail hk hc]
theorem decS_some {v0 v1 v2 v3 n : UInt8} {r : List UInt8} {cs : List Cp} (h : getCs n.toNat r = some (cs, [])) : decS (83 :: v0 :: v1 :: v2 :: v3 :: n :: r) = if chkE ⟨verOf v0 v1 v2 v3, cs⟩ = 0 then some ⟨verOf v0 v1 v2 v3, cs⟩ else none := by
  unfold decS
  simp only
  rw [if_pos trivial, h]
theorem decS_none {v0 v1 v2 v3 n : UInt8} {r : List UInt8} (h : getCs n.toNat r = none) : decS (83 :: v0 :: v1 :: v2 :: v3 :: n :: r) = none := by
  unfold decS
  simp only
  rw [if_pos trivial, h]
theorem decS_rest {v0 v1 v2 v3 n : UInt8} {r r2 : List UInt8} {cs : List Cp} (h : getCs n.toNat r = some (cs, r2)) (h2 : r2 ≠ []) : decS (83 :: v0 :: v1 :: v2 :: v3 :: n :: r) = none := by
  unfold decS
  simp only
  rw [if_pos trivial, h]
  cases r2 with
  | nil => exact absurd rfl h2
  | cons a t => rfl
theorem decS_short {l : List UInt8} (h : l.length < 6) : decS l = none := by
  unfold decS
  split
  · simp only [List.length_cons] at h; omega
  · rfl
theorem flV_snoc (fs : List Fl) (f : Fl) : flV (fs ++ [f]) = flV fs ++ f.vals := by unfold flV; rw [List.map_append, List.flatten_append]; simp
theorem rowsZ_add {cs : List Cp} {cells : List Value} {c : Cp} {v : Value} (h : cells.length = cs.length) : rowsZ (cs ++ [c]) (cells ++ [v]) = rowsZ cs cells ++ [.int .i64 c.id, .string ⟨c.nm.toArray⟩, v] := by rw [rowsZ_app h]; rfl
end Go.Lg.Fld
namespace Go.Proofs.YtnomcmklhbjfjaaGreatDoor
open Go Go.Lg Go.Lg.Fld
set_option maxRecDepth 100000
variable (X : Nat → Option Obj)
end Go.Proofs.YtnomcmklhbjfjaaGreatDoor
end
section
namespace Go.Lg.Fld
open Go Go.Lg
def tSm : List UInt8 × Bool → UInt8 × List UInt8 × Bool
  | (c :: t, false) => (c, t, false)
  | (l, _) => (0, l, true)
def tNm : List UInt8 × Bool → List UInt8 × List UInt8 × Bool
  | (c :: t, false) => if c.toNat ≤ t.length then (t.take c.toNat, t.drop c.toNat, false) else ([], t, true)
  | (l, _) => ([], l, true)
def tVe : List UInt8 × Bool → Nat × List UInt8 × Bool
  | (l, b) => if b = false ∧ 4 ≤ l.length then (Go.Lg.le (l.take 4), l.drop 4, false) else (0, l, true)
def tF (x : List UInt8 × Bool) : Fl × List UInt8 × Bool := (⟨(tNm x).1, ((tSm (tNm x).2).1.toNat : Nat), ((tSm (tSm (tNm x).2).2).1.toNat : Nat)⟩, (tSm (tSm (tNm x).2).2).2)
def tFs (x : List UInt8 × Bool) : Nat → List Fl × List UInt8 × Bool
  | 0 => ([], x)
  | n + 1 => ((tFs x n).1 ++ [(tF (tFs x n).2).1], (tF (tFs x n).2).2)
def tC (x : List UInt8 × Bool) : Cp × List UInt8 × Bool :=
  (⟨((tSm x).1.toNat : Nat), (tNm (tSm x).2).1, (tFs (tSm (tNm (tSm x).2).2).2 (tSm (tNm (tSm x).2).2).1.toNat).1⟩, (tFs (tSm (tNm (tSm x).2).2).2 (tSm (tNm (tSm x).2).2).1.toNat).2)
def tCs (x : List UInt8 × Bool) : Nat → List Cp × List UInt8 × Bool
  | 0 => ([], x)
  | n + 1 => ((tCs x n).1 ++ [(tC (tCs x n).2).1], (tC (tCs x n).2).2)
def Less (x y : List UInt8 × Bool) : Prop := y.1.length ≤ x.1.length ∧ (x.2 = true → y.2 = true)
theorem Less.rfl' (x : List UInt8 × Bool) : Less x x := ⟨Nat.le_refl _, id⟩
theorem Less.trans {x y z : List UInt8 × Bool} (h : Less x y) (h' : Less y z) : Less x z := ⟨Nat.le_trans h'.1 h.1, fun e => h'.2 (h.2 e)⟩
theorem tSm_less (x : List UInt8 × Bool) : Less x (tSm x).2 := by
  obtain ⟨l, b⟩ := x
  cases b <;> cases l <;> simp [tSm, Less]
theorem tNm_less (x : List UInt8 × Bool) : Less x (tNm x).2 := by
  obtain ⟨l, b⟩ := x
  cases b with
  | true => cases l <;> simp [tNm, Less]
  | false => cases l with
    | nil => simp [tNm, Less]
    | cons c t =>
      simp only [tNm]
      split
      · exact ⟨by simp only [List.length_drop, List.length_cons]; omega, fun h => (by cases h)⟩
      · exact ⟨by simp only [List.length_cons]; omega, fun _ => rfl⟩
theorem tVe_less (x : List UInt8 × Bool) : Less x (tVe x).2 := by
  obtain ⟨l, b⟩ := x
  unfold tVe
  simp only
  by_cases h : b = false ∧ 4 ≤ l.length
  · rw [if_pos h]; exact ⟨by simp only [List.length_drop]; omega, fun e => (by rw [h.1] at e; cases e)⟩
  · rw [if_neg h]; exact ⟨Nat.le_refl _, fun _ => rfl⟩
theorem tNm_lt (x : List UInt8 × Bool) : (tNm x).1.length < 256 := by
  obtain ⟨l, b⟩ := x
  cases b with
  | true => cases l <;> simp [tNm]
  | false => cases l with
    | nil => simp [tNm]
    | cons c t =>
      simp only [tNm]
      split
      · have := c.toNat_lt; simp only [List.length_take]; omega
      · simp
theorem tF_less (x : List UInt8 × Bool) : Less x (tF x).2 := ((tNm_less x).trans (tSm_less _)).trans (tSm_less _)
theorem tFs_less (x : List UInt8 × Bool) : ∀ n, Less x (tFs x n).2
  | 0 => Less.rfl' x
  | n + 1 => (tFs_less x n).trans (tF_less _)
theorem tC_less (x : List UInt8 × Bool) : Less x (tC x).2 := (((tSm_less x).trans (tNm_less _)).trans (tSm_less _)).trans (tFs_less _ _)
theorem tCs_less (x : List UInt8 × Bool) : ∀ n, Less x (tCs x n).2
  | 0 => Less.rfl' x
  | n + 1 => (tCs_less x n).trans (tC_less _)
theorem tFs_len (x : List UInt8 × Bool) : ∀ n, (tFs x n).1.length = n
  | 0 => rfl
  | n + 1 => by simp only [tFs, List.length_append, List.length_singleton]; rw [tFs_len x n]
theorem tCs_len (x : List UInt8 × Bool) : ∀ n, (tCs x n).1.length = n
  | 0 => rfl
  | n + 1 => by simp only [tCs, List.length_append, List.length_singleton]; rw [tCs_len x n]
theorem tF_ok (x : List UInt8 × Bool) : okF (tF x).1 := by
  have h1 := tNm_lt x
  have h2 := (tSm (tNm x).2).1.toNat_lt
  have h3 := (tSm (tSm (tNm x).2).2).1.toNat_lt
  exact ⟨h1, ⟨by unfold tF; simp only; omega, by unfold tF; simp only; omega⟩, ⟨by unfold tF; simp only; omega, by unfold tF; simp only; omega⟩⟩
theorem tFs_ok (x : List UInt8 × Bool) : ∀ n, ∀ f ∈ (tFs x n).1, okF f
  | 0 => fun f hf => (by simp [tFs] at hf)
  | n + 1 => fun f hf => by
    simp only [tFs, List.mem_append, List.mem_singleton] at hf
    rcases hf with hf | rfl
    · exact tFs_ok x n f hf
    · exact tF_ok _
theorem tC_ok (x : List UInt8 × Bool) : okC (tC x).1 := by
  have h1 := (tSm x).1.toNat_lt
  have h2 := tNm_lt (tSm x).2
  have h3 := (tSm (tNm (tSm x).2).2).1.toNat_lt
  exact ⟨⟨by unfold tC; simp only; omega, by unfold tC; simp only; omega⟩, h2, by unfold tC; simp only; rw [tFs_len]; omega, tFs_ok _ _⟩
theorem tCs_ok (x : List UInt8 × Bool) : ∀ n, ∀ c ∈ (tCs x n).1, okC c
  | 0 => fun f hf => (by simp [tCs] at hf)
  | n + 1 => fun f hf => by
    simp only [tCs, List.mem_append, List.mem_singleton] at hf
    rcases hf with hf | rfl
    · exact tCs_ok x n f hf
    · exact tC_ok _
theorem tNm_get (l : List UInt8) : (∃ nm r, tNm (l, false) = (nm, r, false) ∧ getT l = some (nm, r)) ∨ ((tNm (l, false)).2.2 = true ∧ getT l = none) := by
  cases l with
  | nil => exact .inr ⟨rfl, rfl⟩
  | cons c t =>
    simp only [tNm, getT]
    split
    · exact .inl ⟨_, _, rfl, rfl⟩
    · exact .inr ⟨rfl, rfl⟩
theorem tSm_bad {x : List UInt8 × Bool} (h : x.2 = true) : (tSm x).2.2 = true := (tSm_less x).2 h
theorem tF_get (l : List UInt8) : (∃ f r, tF (l, false) = (f, r, false) ∧ getF l = some (f, r)) ∨ ((tF (l, false)).2.2 = true ∧ getF l = none) := by
  rcases tNm_get l with ⟨nm, r, h1, h2⟩ | ⟨h1, h2⟩
  · unfold tF getF
    rw [h1, h2]
    simp only
    match r with
    | [] => exact .inr ⟨by simp [tSm], rfl⟩
    | [k] => exact .inr ⟨by simp [tSm], rfl⟩
    | k :: c :: r2 => exact .inl ⟨_, _, by simp only [tSm], rfl⟩
  · refine .inr ⟨?_, by unfold getF; rw [h2]⟩
    exact tSm_bad (tSm_bad h1)
theorem getFs_none : ∀ {n : Nat} {b : List UInt8}, getFs n b = none → getFs (n + 1) b = none
  | 0, b, h => by simp [getFs] at h
  | n + 1, b, h => by
    unfold getFs at h ⊢
    cases hf : getF b with
    | none => rfl
    | some p =>
      obtain ⟨f, r⟩ := p
      rw [hf] at h
      simp only at h ⊢
      cases hk : getFs n r with
      | none => rw [getFs_none hk]
      | some q => rw [hk] at h; simp at h
theorem getCs_none : ∀ {n : Nat} {b : List UInt8}, getCs n b = none → getCs (n + 1) b = none
  | 0, b, h => by simp [getCs] at h
  | n + 1, b, h => by
    unfold getCs at h ⊢
    cases hf : getC b with
    | none => rfl
    | some p =>
      obtain ⟨f, r⟩ := p
      rw [hf] at h
      simp only at h ⊢
      cases hk : getCs n r with
      | none => rw [getCs_none hk]
      | some q => rw [hk] at h; simp at h
theorem tFs_get (l : List UInt8) : ∀ n, (∃ fs r, tFs (l, false) n = (fs, r, false) ∧ getFs n l = some (fs, r)) ∨ ((tFs (l, false) n).2.2 = true ∧ getFs n l = none)
  | 0 => .inl ⟨_, _, rfl, rfl⟩
  | n + 1 => by
    rcases tFs_get l n with ⟨fs, r, h1, h2⟩ | ⟨h1, h2⟩
    · rcases tF_get r with ⟨f, r2, h3, h4⟩ | ⟨h3, h4⟩
      · refine .inl ⟨fs ++ [f], r2, ?_, getFs_step h2 h4⟩
        simp only [tFs, h1, h3]
      · refine .inr ⟨?_, getFs_fail (k := 0) h2 h4⟩
        simp only [tFs, h1, h3]
    · exact .inr ⟨(tF_less _).2 h1, getFs_none h2⟩
theorem tC_get (l : List UInt8) : (∃ c r, tC (l, false) = (c, r, false) ∧ getC l = some (c, r)) ∨ ((tC (l, false)).2.2 = true ∧ getC l = none) := by
  cases l with
  | nil =>
    refine .inr ⟨?_, rfl⟩
    exact (tFs_less _ _).2 (tSm_bad ((tNm_less _).2 rfl))
  | cons i r =>
    have e1 : tSm (i :: r, false) = (i, r, false) := rfl
    rcases tNm_get r with ⟨nm, r1, h1, h2⟩ | ⟨h1, h2⟩
    · cases r1 with
      | nil =>
        refine .inr ⟨?_, by unfold getC; simp only [h2]⟩
        unfold tC
        rw [e1, h1]
        exact (tFs_less _ _).2 rfl
      | cons m r2 =>
        have e2 : tSm (m :: r2, false) = (m, r2, false) := rfl
        rcases tFs_get r2 m.toNat with ⟨fs, r3, h3, h4⟩ | ⟨h3, h4⟩
        · refine .inl ⟨⟨(i.toNat : Nat), nm, fs⟩, r3, ?_, by unfold getC; simp only [h2, h4]⟩
          simp only [tC, e1, h1, e2, h3]
        · refine .inr ⟨?_, by unfold getC; simp only [h2, h4]⟩
          simp only [tC, e1, h1, e2, h3]
    · refine .inr ⟨?_, by unfold getC; simp only [h2]⟩
      unfold tC
      rw [e1]
      exact (tFs_less _ _).2 (tSm_bad h1)
theorem tCs_get (l : List UInt8) : ∀ n, (∃ fs r, tCs (l, false) n = (fs, r, false) ∧ getCs n l = some (fs, r)) ∨ ((tCs (l, false) n).2.2 = true ∧ getCs n l = none)
  | 0 => .inl ⟨_, _, rfl, rfl⟩
  | n + 1 => by
    rcases tCs_get l n with ⟨fs, r, h1, h2⟩ | ⟨h1, h2⟩
    · rcases tC_get r with ⟨f, r2, h3, h4⟩ | ⟨h3, h4⟩
      · refine .inl ⟨fs ++ [f], r2, ?_, getCs_step h2 h4⟩
        simp only [tCs, h1, h3]
      · refine .inr ⟨?_, getCs_fail (k := 0) h2 h4⟩
        simp only [tCs, h1, h3]
    · exact .inr ⟨(tC_less _).2 h1, getCs_none h2⟩
theorem le4_ver (a b c d : UInt8) : ((Go.Lg.le [a, b, c, d] : Nat) : Int) = verOf a b c d := by
  simp only [Go.Lg.le, verOf]
  omega
theorem tVe_yes {l : List UInt8} (h : 4 ≤ l.length) : tVe (l, false) = (Go.Lg.le (l.take 4), l.drop 4, false) := if_pos ⟨rfl, h⟩
theorem tVe_lt (x : List UInt8 × Bool) : (tVe x).1 < 4294967296 := by
  obtain ⟨l, b⟩ := x
  unfold tVe
  simp only
  by_cases h : b = false ∧ 4 ≤ l.length
  · rw [if_pos h]
    have h := Go.Lg.le_lt (l.take 4)
    have h2 : (256 : Nat) ^ (l.take 4).length ≤ 256 ^ 4 := Nat.pow_le_pow_right (by decide) (by rw [List.length_take]; omega)
    simp only
    omega
  · rw [if_neg h]; show 0 < 4294967296; decide
def tA (l : List UInt8) : UInt8 × Sc × List UInt8 × Bool :=
  ((tSm (l, false)).1, ⟨((tVe (tSm (l, false)).2).1 : Nat), (tCs (tSm (tVe (tSm (l, false)).2).2).2 (tSm (tVe (tSm (l, false)).2).2).1.toNat).1⟩, (tCs (tSm (tVe (tSm (l, false)).2).2).2 (tSm (tVe (tSm (l, false)).2).2).1.toNat).2)
theorem decS_t (l : List UInt8) : decS l = if (tA l).2.2 = ([], false) ∧ (tA l).1 = 83 ∧ chkE (tA l).2.1 = 0 then some (tA l).2.1 else none := by
  by_cases h6 : l.length < 6
  · rw [decS_short h6, if_neg]
    rintro ⟨h, _⟩
    have hbad : (tA l).2.2.2 = true := by
      unfold tA
      refine (tCs_less _ _).2 ?_
      cases l with
      | nil => exact tSm_bad ((tVe_less _).2 rfl)
      | cons c t =>
        rw [show tSm (c :: t, false) = (c, t, false) from rfl]
        simp only [List.length_cons] at h6
        by_cases h4 : 4 ≤ t.length
        · rw [show tVe (t, false) = (Go.Lg.le (t.take 4), t.drop 4, false) from if_pos ⟨rfl, h4⟩]
          rw [show t.drop 4 = [] from List.drop_eq_nil_of_le (by omega)]; rfl
        · rw [show tVe (t, false) = (0, t, true) from if_neg fun h => h4 h.2]
          exact tSm_bad rfl
    rw [h] at hbad
    cases hbad
  obtain ⟨m0, v0, v1, v2, v3, nb, r, rfl⟩ : ∃ m0 v0 v1 v2 v3 nb r, l = m0 :: v0 :: v1 :: v2 :: v3 :: nb :: r := by
    match l, h6 with
    | m0 :: v0 :: v1 :: v2 :: v3 :: nb :: r, _ => exact ⟨m0, v0, v1, v2, v3, nb, r, rfl⟩
    | [], h => exact absurd (by simp) h
    | [_], h => exact absurd (by simp) h
    | [_, _], h => exact absurd (by simp) h
    | [_, _, _], h => exact absurd (by simp) h
    | [_, _, _, _], h => exact absurd (by simp) h
    | [_, _, _, _, _], h => exact absurd (by simp) h
  have hA : tA (m0 :: v0 :: v1 :: v2 :: v3 :: nb :: r) = (m0, ⟨verOf v0 v1 v2 v3, (tCs (r, false) nb.toNat).1⟩, (tCs (r, false) nb.toNat).2) := by
    unfold tA
    rw [show tSm (m0 :: v0 :: v1 :: v2 :: v3 :: nb :: r, false) = (m0, v0 :: v1 :: v2 :: v3 :: nb :: r, false) from rfl]
    rw [show tVe (v0 :: v1 :: v2 :: v3 :: nb :: r, false) = (Go.Lg.le ((v0 :: v1 :: v2 :: v3 :: nb :: r).take 4), (v0 :: v1 :: v2 :: v3 :: nb :: r).drop 4, false) from tVe_yes (by simp only [List.length_cons]; omega), show (v0 :: v1 :: v2 :: v3 :: nb :: r).take 4 = [v0, v1, v2, v3] from rfl, show (v0 :: v1 :: v2 :: v3 :: nb :: r).drop 4 = nb :: r from rfl]
    rw [show tSm (nb :: r, false) = (nb, r, false) from rfl]
    simp only
    rw [le4_ver]
  rw [hA]
  simp only
  by_cases hm : m0 = 83
  · subst hm
    rcases tCs_get r nb.toNat with ⟨cs, r2, h1, h2⟩ | ⟨h1, h2⟩
    · rw [h1]
      simp only
      by_cases hr : r2 = []
      · subst hr
        rw [decS_some h2]
        by_cases hz : chkE ⟨verOf v0 v1 v2 v3, cs⟩ = 0
        · rw [if_pos hz, if_pos ⟨rfl, trivial, hz⟩]
        · rw [if_neg hz, if_neg fun h => hz h.2.2]
      · rw [decS_rest h2 hr, if_neg fun h => hr (Prod.ext_iff.1 h.1).1]
    · rw [decS_none h2, if_neg]
      rintro ⟨h, _⟩
      rw [h] at h1
      cases h1
  · rw [if_neg fun h => hm h.2.1]
    unfold decS
    simp only
    rw [if_neg hm]
end Go.Lg.Fld
namespace Go.Proofs.YtnomcmklhbjfjaaGreatDoor
open Go Go.Lg Go.Lg.Fld
set_option maxRecDepth 100000
variable (X : Nat → Option Obj)
theorem Num1_t (l : List UInt8) (b : Bool) (hl : l.length < 4611686018427387904) : MSpec Tryz.prog X 31 [Lp 1000000, Ln .i64 1] (rd 1000000 l b) (Ln .u64 ((tSm (l, b)).1.toNat : Nat)) (rd 1000000 (tSm (l, b)).2.1 (tSm (l, b)).2.2) := by
  cases b with
  | true => have h := Num_no X l true 1 rfl; cases l <;> exact h
  | false => cases l with
    | nil => exact Num_no X [] false 1 rfl
    | cons c t =>
      have h1 := Num_ok X (c :: t) 1 rfl (by simp) hl
      rw [show ((c :: t).take 1) = [c] from rfl, show ((c :: t).drop 1) = t from rfl, show le [c] = c.toNat by simp [le]] at h1
      exact h1
theorem Num4_t (l : List UInt8) (b : Bool) (hl : l.length < 4611686018427387904) : MSpec Tryz.prog X 31 [Lp 1000000, Ln .i64 4] (rd 1000000 l b) (Ln .u64 ((tVe (l, b)).1 : Nat)) (rd 1000000 (tVe (l, b)).2.1 (tVe (l, b)).2.2) := by
  by_cases h : b = false ∧ 4 ≤ l.length
  · rw [show tVe (l, b) = (Go.Lg.le (l.take 4), l.drop 4, false) from if_pos h]
    obtain ⟨rfl, h4⟩ := h
    exact Num_ok X l 4 rfl h4 hl
  · rw [show tVe (l, b) = (0, l, true) from if_neg h]
    refine Num_no X l b 4 ?_
    unfold rawOk
    cases b with
    | true => rfl
    | false => rw [decide_eq_false (by simp only [true_and] at h; omega)]; rfl
theorem Name_t (l : List UInt8) (b : Bool) (hl : l.length < 4611686018427387904) : MSpec Tryz.prog X 57 [Lp 1000000] (rd 1000000 l b) (Ls (tNm (l, b)).1) (rd 1000000 (tNm (l, b)).2.1 (tNm (l, b)).2.2) := by
  by_cases hb : (isW 1 && rawOk l b 1) = false
  · have e : tNm (l, b) = ([], l, true) := by
      cases b with
      | true => cases l <;> rfl
      | false => cases l with
        | nil => rfl
        | cons c t => exact absurd hb (by unfold rawOk; rw [decide_eq_true (by simp only [List.length_cons]; omega)]; decide)
    rw [e]
    refine MSpec.intro Tryz.func57 rfl (by kernel_rfl) rfl rfl rfl rfl rfl ?_
    intro C
    have h1 := Num_no X l b 1 hb
    (refine LWP.seq <| LWP.region (by kernel_rfl) <| kas rfl <| RunK.nil <| LWP.seq <| LWP.region (by kernel_rfl) <| kmv rfl <| kmv rfl <| K.callM [] (rd 1000000 l true) (h1) rfl rfl (by exact (And.intro ⟨_, rfl, rfl⟩ trivial)) (by exact (all_cons_true (all_cons_true rfl (all_cons_true rfl rfl)) rfl)) rfl rfl rfl rfl (by exact (.box rfl rfl .nil)) .plain <| kcv rfl (by exact wrap_i64 (by omega)) ?_; refine K.callM [] (rd 1000000 l true) (Raw_no X l true 0 rfl) rfl rfl (by exact (And.intro ⟨_, rfl, rfl⟩ trivial)) (by exact (all_cons_true (all_cons_true rfl (all_cons_true rfl rfl)) rfl)) rfl rfl rfl rfl (by exact (.box rfl rfl .nil)) .plain <| kas rfl <| RunK.nil <| LWP.ret ?_)
    exact ⟨[], ⟨[_], ⟨rfl, trivial⟩, rfl⟩, ⟨⟨_, rfl, rfl⟩, trivial⟩, rfl, rfl⟩
  · cases b with
    | true => exact absurd rfl hb
    | false =>
      cases l with
      | nil => exact absurd rfl hb
      | cons c t =>
        by_cases hc : c.toNat ≤ t.length
        · rw [show tNm (c :: t, false) = (t.take c.toNat, t.drop c.toNat, false) from if_pos hc]
          exact Name_ok X c t hc hl
        · rw [show tNm (c :: t, false) = ([], t, true) from if_neg hc]
          have hc2 := c.toNat_lt
          have h1 := Num_ok X (c :: t) 1 rfl (by simp) hl
          rw [show ((c :: t).take 1) = [c] from rfl, show ((c :: t).drop 1) = t from rfl, show le [c] = c.toNat by simp [le]] at h1
          refine MSpec.intro Tryz.func57 rfl (by kernel_rfl) rfl rfl rfl rfl rfl ?_
          intro C
          have h2 : rawOk t false (c.toNat : Nat) = false := by unfold rawOk; rw [decide_eq_false (by omega)]; rfl
          (refine LWP.seq <| LWP.region (by kernel_rfl) <| kas rfl <| RunK.nil <| LWP.seq <| LWP.region (by kernel_rfl) <| kmv rfl <| kmv rfl <| K.callM [] (rd 1000000 t false) (h1) rfl rfl (by exact (And.intro ⟨_, rfl, rfl⟩ trivial)) (by exact (all_cons_true (all_cons_true rfl (all_cons_true rfl rfl)) rfl)) rfl rfl rfl rfl (by exact (.box rfl rfl .nil)) .plain <| kcv rfl (by exact wrap_i64 (by omega)) ?_; refine K.callM [] (rd 1000000 t true) (Raw_no X t false (c.toNat : Nat) h2) rfl rfl (by exact (And.intro ⟨_, rfl, rfl⟩ trivial)) (by exact (all_cons_true (all_cons_true rfl (all_cons_true rfl rfl)) rfl)) rfl rfl rfl rfl (by exact (.box rfl rfl .nil)) .plain <| kas rfl <| RunK.nil <| LWP.ret ?_)
          exact ⟨[], ⟨[_], ⟨rfl, trivial⟩, rfl⟩, ⟨⟨_, rfl, rfl⟩, trivial⟩, rfl, rfl⟩
theorem takeSmall_t (l : List UInt8) (b : Bool) (hl : l.length < 4611686018427387904) : MSpec Tryz.prog X 30 [Lp 1000000] (rd 1000000 l b) (Ln .i64 ((tSm (l, b)).1.toNat : Nat)) (rd 1000000 (tSm (l, b)).2.1 (tSm (l, b)).2.2) := by
  have h := Num1_t X l b hl
  have hk := (tSm (l, b)).1.toNat_lt
  generalize (tSm (l, b)).1.toNat = k at *
  generalize (tSm (l, b)).2.1 = l2 at *
  generalize (tSm (l, b)).2.2 = b2 at *
  refine MSpec.intro Tryz.func30 rfl (by kernel_rfl) rfl rfl rfl rfl rfl ?_
  intro C
  have hw : IntKind.i64.wrap ((k : Nat) : Int) = ((k : Nat) : Int) := wrap_i64 (by omega)
  (refine LWP.seq <| LWP.region (by kernel_rfl) <| kas rfl <| RunK.nil <| LWP.seq <| LWP.region (by kernel_rfl) <| kmv rfl <| K.callM [] (rd 1000000 l2 b2) (h) rfl rfl (by exact (And.intro ⟨_, rfl, rfl⟩ trivial)) (by exact (all_cons_true (all_cons_true rfl (all_cons_true rfl rfl)) rfl)) rfl rfl rfl rfl (by exact (.box rfl rfl .nil)) .plain <| kcv rfl hw ?_; refine kas rfl <| RunK.nil <| LWP.ret ?_)
  exact ⟨[], ⟨[_], ⟨rfl, trivial⟩, rfl⟩, ⟨⟨_, rfl, rfl⟩, trivial⟩, rfl, rfl⟩
theorem takeField_t (l : List UInt8) (b : Bool) (hl : l.length < 4611686018427387904) : MSpec Tryz.prog X 58 [Lp 1000000] (rd 1000000 l b) (Fx (tF (l, b)).1) (rd 1000000 (tF (l, b)).2.1 (tF (l, b)).2.2) := by
  have h1 := Name_t X l b hl
  have g1 := tNm_less (l, b)
  unfold tF
  rcases hy1 : tNm (l, b) with ⟨nm, l1, b1⟩
  rw [hy1] at h1 g1
  have g1 : l1.length ≤ l.length := g1.1
  have h2 := takeSmall_t X l1 b1 (by omega)
  have g2 := tSm_less (l1, b1)
  simp only
  rcases hy2 : tSm (l1, b1) with ⟨k, l2, b2⟩
  rw [hy2] at h2 g2
  have g2 : l2.length ≤ l1.length := g2.1
  have h3 := takeSmall_t X l2 b2 (by omega)
  simp only
  rcases hy3 : tSm (l2, b2) with ⟨c, l3, b3⟩
  rw [hy3] at h3
  simp only at h1 h2 h3 ⊢
  refine MSpec.intro Tryz.func58 rfl (by kernel_rfl) rfl rfl rfl rfl rfl ?_
  intro C
  (refine LWP.seq <| LWP.region (by kernel_rfl) <| K.alloc rfl .plain ?_; refine RunK.nil <| LWP.seq <| LWP.region (by kernel_rfl) <| kmv rfl <| K.callM [] (rd 1000000 l1 b1) (h1) rfl rfl (by exact (And.intro ⟨_, rfl, rfl⟩ trivial)) (by exact (all_cons_true (all_cons_true rfl (all_cons_true rfl rfl)) rfl)) rfl rfl rfl rfl (by exact (.box rfl rfl .nil)) .plain <| kmv rfl <| K.callM [] (rd 1000000 l2 b2) (h2) rfl rfl (by exact (And.intro ⟨_, rfl, rfl⟩ trivial)) (by exact (all_cons_true (all_cons_true rfl (all_cons_true rfl rfl)) rfl)) rfl rfl rfl rfl (by exact (.box rfl rfl .nil)) .plain <| kmv rfl <| K.callM [] (rd 1000000 l3 b3) (h3) rfl rfl (by exact (And.intro ⟨_, rfl, rfl⟩ trivial)) (by exact (all_cons_true (all_cons_true rfl (all_cons_true rfl rfl)) rfl)) rfl rfl rfl rfl (by exact (.box rfl rfl .nil)) .plain <| K.build rfl rfl (by exact rfl) (by exact nl3 rfl rfl rfl rfl) .plain ?_; refine K.storeAll rfl rfl rfl rfl rfl rfl .plain ?_; refine RunK.nil <| LWP.ret ?_)
  exact ⟨[], ⟨[_], ⟨⟨_, _, rfl, rfl, rfl, .inl ⟨AggT.h, rfl⟩⟩, trivial⟩, rfl⟩, ⟨⟨_, rfl, rfl⟩, trivial⟩, rfl, rfl⟩
end Go.Proofs.YtnomcmklhbjfjaaGreatDoor
end
section
namespace Go.Proofs.YtnomcmklhbjfjaaGreatDoor
open Go Go.Lg Go.Lg.Fld
set_option maxRecDepth 100000
variable (X : Nat → Option Obj)
end Go.Proofs.YtnomcmklhbjfjaaGreatDoor
end
section
namespace Go.Lg.Fld
open Go Go.Lg
def SmallC8 (cs : List Cp) : Prop := cs.length ≤ 30 ∧ ∀ c ∈ cs, c.fs.length ≤ 12 ∧ c.nm.length ≤ 300 ∧ ∀ f ∈ c.fs, f.nm.length ≤ 300
def bigF8 (fs : List Fl) : Bool := fs.any fun f => decide (300 < f.nm.length)
def bigC8 (c : Cp) : Bool := (decide (12 < c.fs.length) || decide (300 < c.nm.length)) || bigF8 c.fs
def greatB8 (cs : List Cp) : Bool := decide (30 < cs.length) || cs.any bigC8
theorem greatB8_small {cs : List Cp} (h : greatB8 cs = false) : SmallC8 cs := by
  unfold greatB8 at h
  rw [Bool.or_eq_false_iff] at h
  refine ⟨by have := of_decide_eq_false h.1; omega, fun c hc => ?_⟩
  have h2 := List.any_eq_false.1 h.2 c hc
  have h3 : bigC8 c = false := by simpa using h2
  unfold bigC8 at h3
  rw [Bool.or_eq_false_iff, Bool.or_eq_false_iff] at h3
  refine ⟨by have := of_decide_eq_false h3.1.1; omega, by have := of_decide_eq_false h3.1.2; omega, fun f hf => ?_⟩
  have h4 := List.any_eq_false.1 h3.2 f hf
  simp only [decide_eq_true_eq] at h4
  omega
theorem SmallC8.names {cs : List Cp} (h : SmallC8 cs) : NamesC cs := fun c hc => by
  obtain ⟨h1, h2, h3⟩ := h.2 c hc
  exact ⟨by omega, by omega, fun f hf => by have := h3 f hf; omega⟩
def encTx (s : Sc) : List UInt8 := if chkE s = 0 then encS s else []
end Go.Lg.Fld
namespace Go.Proofs.YtnomcmklhbjfjaaGreatDoor
open Go Go.Lg Go.Lg.Fld
set_option maxRecDepth 100000
variable (X : Nat → Option Obj)
theorem pCheck8 (s : Sc) (ad : Option Addr) (cap : Nat) (hin : CompsIn X ad s.cs) (hS : SmallC8 s.cs) (e : Int) (he : chkE s = e) : PSpec Tryz.prog X 20 [Sx s.ver ad s.cs.length cap] (Ln .i64 e) := pCheckBig X s ad cap hin (by have := hS.1; omega) hS.names e he
end Go.Proofs.YtnomcmklhbjfjaaGreatDoor
end
section
namespace Go.Lg.Fld
open Go Go.Lg
def zeF (k : Nat) : List Value := (List.replicate k [Value.string ⟨#[]⟩, Value.int .i64 0, Value.int .i64 0]).flatten
theorem zeF_succ (k : Nat) : zeF (k + 1) = [Value.string ⟨#[]⟩, Value.int .i64 0, Value.int .i64 0] ++ zeF k := by unfold zeF; rw [List.replicate_succ, List.flatten_cons]
theorem zeF_len (k : Nat) : (zeF k).length = k * 3 := by
  induction k with
  | zero => rfl
  | succ k ih => rw [zeF_succ, List.length_append, ih]; simp; omega
theorem okF_small {f : Fl} (h : okF f) : (-9223372036854775808 ≤ f.kind ∧ f.kind < 9223372036854775808) ∧ (-9223372036854775808 ≤ f.count ∧ f.count < 9223372036854775808) := by
  obtain ⟨_, h2, h3⟩ := h
  omega
theorem okC_inB {cs : List Cp} (h : ∀ c ∈ cs, okC c) : InB cs := fun c hc => by
  obtain ⟨h1, _, _, h4⟩ := h c hc
  exact ⟨by omega, fun f hf => okF_small (h4 f hf)⟩
theorem okC_names {cs : List Cp} (h : ∀ c ∈ cs, okC c) : NamesC cs := fun c hc => by
  obtain ⟨_, h2, h3, h4⟩ := h c hc
  unfold okT at h2
  exact ⟨by omega, by omega, fun f hf => by have := (h4 f hf).1; unfold okT at this; omega⟩
end Go.Lg.Fld
namespace Go.Proofs.YtnomcmklhbjfjaaGreatDoor
open Go Go.Lg Go.Lg.Fld
set_option maxRecDepth 100000
variable (X : Nat → Option Obj)
abbrev fmB (k : Nat) (fs : List Fl) : Nat × Option Box := (k, some ⟨57, (flV fs).map .val, false⟩)
abbrev tcSt (l : List UInt8) (b : Bool) (id : Int) (nm : List UInt8) (m i : Nat) (cells : List Value) (X : Nat → Option Obj) : St :=
  ⟨[(0, Lp 1000000), (2, Lp 2), (3, Lp 3), (16, Ln .i64 (m : Nat)), (17, Ln .i64 (i : Nat))], [(1000000, some ⟨108, [vs l, .val (.bool b)], false⟩), (3, some ⟨60, [.val (.int .i64 id), .val (.string ⟨nm.toArray⟩), .slc 12 0 m 3], false⟩), (12, some ⟨57, cells.map .val, false⟩), (2, some ⟨60, [.val (.int .i64 0), .val (.string ⟨#[]⟩), .val (.slice none 0 0)], false⟩)], X⟩
set_option maxHeartbeats 3200000 in
theorem takeComp_t (l : List UInt8) (b : Bool) (hl : l.length < 4611686018427387904) : MSpec Tryz.prog X 32 [Lp 1000000] (rd 1000000 l b) (.sv (SCs (tC (l, b)).1 1000001)) (rd 1000000 (tC (l, b)).2.1 (tC (l, b)).2.2 ++ [fmB 1000001 (tC (l, b)).1.fs]) := by
  have h1 := takeSmall_t X l b hl
  have g1 := (tSm_less (l, b)).1
  have k1 := (tSm (l, b)).1.toNat_lt
  unfold tC
  rcases hy1 : tSm (l, b) with ⟨id, l1, b1⟩
  rw [hy1] at h1 g1 k1
  simp only at h1 g1 k1 ⊢
  have h2 := Name_t X l1 b1 (by omega)
  have g2 := (tNm_less (l1, b1)).1
  rcases hy2 : tNm (l1, b1) with ⟨nm, l2, b2⟩
  rw [hy2] at h2 g2
  simp only at h2 g2 ⊢
  have h3 := takeSmall_t X l2 b2 (by omega)
  have g3 := (tSm_less (l2, b2)).1
  have k3 := (tSm (l2, b2)).1.toNat_lt
  rcases hy3 : tSm (l2, b2) with ⟨m, l3, b3⟩
  rw [hy3] at h3 g3 k3
  simp only at h3 g3 k3 ⊢
  generalize m.toNat = m at *
  have hlen := tFs_len (l3, b3) m
  refine MSpec.intro Tryz.func32 rfl (by kernel_rfl) rfl (by exact (by repeat' (first | refine all_cons_true ?_ ?_ | rfl | exact bytes_inUse | exact vals_inUse | exact mid_inUse rfl))) (by exact (by repeat' (first | refine all_cons_true ?_ ?_ | rfl | exact bytes_inUse | exact vals_inUse | exact mid_inUse rfl))) rfl rfl ?_
  intro C
  have hmk : slcBuild Tryz.prog 58 m = some (zeF m, 3, 57) := slcBuild_many (z := #[.string ⟨#[]⟩, .int .i64 0, .int .i64 0]) (by kernel_rfl) (by kernel_rfl) rfl (by omega)
  (refine LWP.seq <| LWP.region (by kernel_rfl) <| K.alloc rfl .plain ?_; refine RunK.nil <| LWP.seq <| LWP.region (by kernel_rfl) <| kmv rfl <| K.callM [] (rd 1000000 l1 b1) (h1) rfl rfl (by exact (And.intro ⟨_, rfl, rfl⟩ trivial)) (by exact (all_cons_true (all_cons_true rfl (all_cons_true rfl rfl)) rfl)) rfl rfl rfl rfl (by exact (.box rfl rfl .nil)) .plain <| kmv rfl <| K.callM [] (rd 1000000 l2 b2) (h2) rfl rfl (by exact (And.intro ⟨_, rfl, rfl⟩ trivial)) (by exact (all_cons_true (all_cons_true rfl (all_cons_true rfl rfl)) rfl)) rfl rfl rfl rfl (by exact (.box rfl rfl .nil)) .plain <| K.build rfl rfl (by exact rfl) (by exact nl3 rfl rfl rfl rfl) .plain ?_; refine K.alloc rfl .plain ?_; refine K.storeAll rfl rfl rfl rfl rfl rfl .plain ?_; refine RunK.nil <| LWP.seq <| LWP.region (by kernel_rfl) <| kmv rfl <| K.callM [] (rd 1000000 l3 b3) (h3) rfl rfl (by exact (And.intro ⟨_, rfl, rfl⟩ trivial)) (by exact (all_cons_true (all_cons_true rfl (all_cons_true rfl rfl)) rfl)) rfl rfl rfl rfl (by exact (.box rfl rfl .nil)) .plain <| K.makeSlc (m := m) (bytes := 32) rfl rfl hmk (by kernel_rfl) (by omega) rfl rfl .plain <| kfa rfl rfl ?_; refine K.storeOne rfl rfl rfl rfl rfl (nl3 rfl rfl rfl rfl) .plain <| RunK.nil <| LWP.seq <| LWP.seq <| LWP.region (by kernel_rfl) <| kfa rfl rfl ?_; refine kl1 rfl rfl rfl <| K.lenSlc rfl SliceT.h rfl .plain ?_; refine kmv rfl <| RunK.nil <| LWP.block ?_)
  refine LWP.loop (fun k σ => ∃ (i : Nat) (fs : List Fl) (l' : List UInt8) (b' : Bool), i ≤ m ∧ k = m - i ∧ tFs (l3, b3) i = (fs, l', b') ∧ σ = tcSt l' b' (id.toNat : Nat) nm m i (flV fs ++ zeF (m - i)) X) m
    ⟨_, Le.of (by exact ⟨rfl, rfl, rfl, rfl, rfl, trivial⟩) (by exact ⟨rfl, rfl, rfl, rfl, trivial⟩) (by exact rfl) (by exact rfl) (by repeat' (first | refine all_cons_true ?_ ?_ | rfl | exact bytes_inUse | exact vals_inUse | exact mid_inUse rfl)), 0, [], l3, b3, Nat.zero_le _, by omega, rfl, rfl⟩ ?_
  rintro k σ ⟨i, fs, l', b', hi, rfl, hT, rfl⟩
  have hfl : fs.length = i := by have := tFs_len (l3, b3) i; rw [hT] at this; exact this
  have hl' : l'.length ≤ l3.length := by have := (tFs_less (l3, b3) i).1; rw [hT] at this; exact this
  by_cases hlt : i < m
  · have hF := takeField_t X l' b' (by omega)
    rcases hy : tF (l', b') with ⟨f, l4, b4⟩
    rw [hy] at hF
    simp only at hF
    have hT2 : tFs (l3, b3) (i + 1) = (fs ++ [f], l4, b4) := by simp only [tFs, hT, hy]
    have hix : 0 + Int.toNat (i : Int) * 3 = i * 3 := by rw [Int.toNat_natCast]; omega
    have hpl : (flV fs).length = i * 3 := by rw [flV_len, hfl]
    have hroom : i * 3 + 3 ≤ ((flV fs ++ zeF (m - i)).map CV.val).length := by rw [List.length_map, List.length_append, hpl, zeF_len]; omega
    have hspl : splice ((flV fs ++ zeF (m - i)).map CV.val) (i * 3) (f.vals.map CV.val) = (flV (fs ++ [f]) ++ zeF (m - (i + 1))).map CV.val := by
      rw [flV_snoc, show m - i = (m - (i + 1)) + 1 by omega, zeF_succ]
      unfold splice
      simp only [List.map_append, List.append_assoc]
      have hml : ((flV fs).map CV.val).length = i * 3 := by rw [List.length_map, hpl]
      generalize (flV fs).map CV.val = R at *
      rw [← hml, List.take_left, List.drop_length_add_append]
      simp [Fl.vals]
    have hadd : IntKind.i64.wrap (((i : Nat) : Int) + 1) = ((i + 1 : Nat) : Int) := by rw [wrap_i64 (by omega)]; omega
    (refine LWP.seq <| LWP.region (by kernel_rfl) <| klt rfl rfl (decide_eq_true (by omega)) <| RunK.nil <| LWP.seq <| LWP.condT rfl ?_; refine LWP.skip ?_; refine LWP.seq <| LWP.block <| LWP.seq <| LWP.region (by kernel_rfl) <| kmv rfl <| kas rfl <| RunK.nil <| LWP.draws mixed (by kernel_rfl) <| kfa rfl rfl ?_; refine kl1 rfl rfl rfl <| kmv rfl <| kmv rfl <| K.callM [] (rd 1000000 l4 b4) (hF) rfl rfl (by exact (And.intro ⟨_, rfl, rfl⟩ trivial)) (by exact (all_cons_true (all_cons_true rfl (all_cons_true rfl rfl)) rfl)) rfl rfl rfl rfl (by exact (.box rfl rfl .nil)) .plain <| K.indexSlc rfl rfl (by omega) hix .plain ?_; refine K.store rfl rfl rfl rfl (by kernel_rfl) hroom hspl .plain <| RunK.nil <| And.intro (by kernel_rfl) ?_; refine LWP.region (by kernel_rfl) <| kad rfl rfl hadd <| kmv rfl <| RunK.nil ?_)
    exact ⟨_, _, by omega, Le.of (by exact ⟨rfl, rfl, rfl, rfl, rfl, trivial⟩) (by exact ⟨rfl, rfl, rfl, rfl, trivial⟩) (by exact rfl) (by exact rfl) (by repeat' (first | refine all_cons_true ?_ ?_ | rfl | exact bytes_inUse | exact vals_inUse | exact mid_inUse rfl)), i + 1, fs ++ [f], l4, b4, by omega, rfl, hT2, rfl⟩
  · have e : i = m := by omega
    subst e
    rw [hT]
    simp only
    subst hfl
    have hz : zeF (fs.length - fs.length) = [] := by rw [Nat.sub_self]; rfl
    rw [hz, List.append_nil]
    (refine LWP.seq <| LWP.region (by kernel_rfl) <| klt rfl rfl (decide_eq_false (by omega)) <| RunK.nil <| LWP.seq <| LWP.condF rfl ?_; refine LWP.exit <| LWP.seq <| LWP.region (by kernel_rfl) <| K.loadAll rfl rfl rfl .plain ?_; refine K.storeAll rfl rfl rfl rfl rfl rfl .plain ?_; refine RunK.nil <| LWP.ret ?_)
    exact ⟨[(1000001, 12)], ⟨[_], ⟨⟨_, _, rfl, rfl, rfl, .inl ⟨AggT.h, rfl⟩⟩, trivial⟩, rfl⟩, (by repeat' (first | exact trivial | refine And.intro ⟨_, rfl, ?_⟩ ?_ | refine And.intro ⟨_, rfl⟩ ?_ | rfl | exact Box.ren_bytes _ _ _ _ | exact Box.ren_vals _ _ _ _ | exact Box.ren_mid rfl)), rfl, rfl⟩
section
variable {P : Program} {Q : Exit → St → Prop} {c : Code} {n : Nat} {C : Ctx} {X : Nat → Option Obj} {s : List (Nat × LV)} {bx : List (Nat × Option Box)} {k : Nat}
theorem sc_shutW {cs : List Cp} {H : Nat → Option Obj} {cells sp : List Value} (hO : OwnedM C X H) (G : Twigs H 57 3 [] cells (cs.map fun c => flV c.fs)) (hb : InB cs)
    (h : LWP P n C c Q ⟨s, scB k cs :: bx, X⟩) : LWP P n C c Q ⟨s, (k, some ⟨60, (rowsZ cs cells ++ sp).map .val, false⟩) :: bx, joinM X H⟩ := by
  refine LWP.closeRes (vals := rowsZ cs cells ++ sp) hO (fun ρ fr h1 h2 h3 => ?_) h
  refine ⟨_, fr, cells, sp, withBlock_at _ _ _, ?_, ?_, ?_, hb⟩
  · rw [h3]; simp
  · simp
  · rw [cut_with h1]; exact G
end
theorem chk_made {S : Nat → Option (Option Box)} {ver : Int} {k : Nat} {cs : List Cp} {e : TypeId} {cc : List CV} {ce : Int} (hbig : cs.length < 4611686018427387904) (hN : NamesC cs) (hck : chkE ⟨ver, cs⟩ = ce) (hk : S k = some (some ⟨e, cc, .res (scR cs)⟩)) :
    ∀ (Y : Nat → Option Obj) (us : List Value), (∀ b o, X b = some o → Y b = some o) → LentLs S Y [.sv (.agg [.val (.int .i64 ver), .slc k 0 cs.length 3])] us → PSpec Tryz.prog Y 20 (us.map toLV) (Ln .i64 ce) := by
  intro Y us _ hL
  obtain ⟨u2, us2, rfl, ⟨bs, rfl, b1, bs1, rfl, h3, b2, bs2, rfl, ⟨b, blk, cap2, m, hk', rfl, hc, hfit, hB⟩, rfl⟩, rfl⟩ := hL
  have h3 : b1 = .int .i64 ver := h3
  subst h3
  rw [hk] at hk'
  simp only [Option.some.injEq] at hk'
  subst hk'
  obtain ⟨H, hR, hHY⟩ := hB
  exact pCheckBig Y ⟨ver, cs⟩ (some ⟨blk, 0, none⟩) cap2 (scR_in hR hHY) hbig hN ce hck
abbrev szB (k : Nat) : Nat × Option Box := (k, some ⟨24, [.val (.int .i64 0), .val (.slice none 0 0)], false⟩)
abbrev sdB (k : Nat) (ver : Int) (j n : Nat) : Nat × Option Box := (k, some ⟨24, [.val (.int .i64 ver), .slc j 0 n 3], false⟩)
abbrev rdB (k : Nat) (l : List UInt8) (b : Bool) : Nat × Option Box := (k, some ⟨108, [vs l, .val (.bool b)], false⟩)
abbrev dcSt (l : List UInt8) (b : Bool) (first : Nat) (ver : Int) (m i : Nat) (cells : List Value) (X : Nat → Option Obj) : St :=
  ⟨[(2, Lp 2), (4, Lp 700), (5, Ln .i64 (first : Nat)), (6, Lp 6), (22, Ln .i64 (m : Nat)), (23, Ln .i64 (i : Nat))], [(18, some ⟨60, cells.map .val, false⟩), rdB 700 l b, sdB 6 ver 18 m, szB 2], X⟩
def dcR (l : List UInt8) : LV := match decS l with | some s => .tup [.agg [.val (.int .i64 s.ver), .slc 1000001 0 s.cs.length 3], Sn .i64 0] | none => .tup [.agg [.val (.int .i64 0), .val (.slice none 0 0)], Sn .i64 4]
def dcBx (l : List UInt8) : List (Nat × Option Box) := match decS l with | some s => [scB 1000001 s.cs] | none => []
theorem dc_none {l : List UInt8} (h : decS l = none) : dcR l = .tup [.agg [.val (.int .i64 0), .val (.slice none 0 0)], Sn .i64 4] ∧ dcBx l = [] := by unfold dcR dcBx; rw [h]; exact ⟨rfl, rfl⟩
theorem dc_some {l : List UInt8} {s : Sc} (h : decS l = some s) : dcR l = .tup [.agg [.val (.int .i64 s.ver), .slc 1000001 0 s.cs.length 3], Sn .i64 0] ∧ dcBx l = [scB 1000001 s.cs] := by unfold dcR dcBx; rw [h]; exact ⟨rfl, rfl⟩
theorem dcBx_use (l : List UInt8) : ((dcBx l).all fun p => match p.2 with | some b => b.cells.all (CV.inUse (dcBx l)) | none => true) = true := by
  cases h : decS l with
  | none => rw [(dc_none h).2]; rfl
  | some s => rw [(dc_some h).2]; rfl
theorem dcR_use (l : List UInt8) : LV.inUse (dcBx l) (dcR l) = true := by
  cases h : decS l with
  | none => rw [(dc_none h).1, (dc_none h).2]; rfl
  | some s => rw [(dc_some h).1, (dc_some h).2]; rfl
set_option maxHeartbeats 6400000 in
theorem cDecode (l : List UInt8) (hb : l.length < 1099511627776) : MSpec Tryz.prog X 12 [Ls l] [] (dcR l) (dcBx l) := by
  have hS := decS_t l
  have h1 := takeSmall_t X l false (by omega)
  have g1 := (tSm_less (l, false)).1
  unfold tA at hS
  rcases hy1 : tSm (l, false) with ⟨first, l1, b1⟩
  rw [hy1] at h1 g1 hS
  simp only at h1 g1 hS
  have h2 := Num4_t X l1 b1 (by omega)
  have g2 := (tVe_less (l1, b1)).1
  have k2 := tVe_lt (l1, b1)
  rcases hy2 : tVe (l1, b1) with ⟨vn, l2, b2⟩
  rw [hy2] at h2 g2 k2 hS
  simp only at h2 g2 k2 hS
  have h3 := takeSmall_t X l2 b2 (by omega)
  have g3 := (tSm_less (l2, b2)).1
  have k3 := (tSm (l2, b2)).1.toNat_lt
  rcases hy3 : tSm (l2, b2) with ⟨m, l3, b3⟩
  rw [hy3] at h3 g3 k3 hS
  simp only at h3 g3 k3 hS
  generalize m.toNat = m at *
  refine MSpec.intro Tryz.func12 rfl (by kernel_rfl) rfl (dcR_use l) (dcBx_use l) rfl rfl ?_
  intro C
  have hmk : slcBuild Tryz.prog 22 m = some (zer m, 3, 60) := slcBuild_many (z := #[.int .i64 0, .string ⟨#[]⟩, .slice none 0 0]) (by kernel_rfl) (by kernel_rfl) rfl (by omega)
  have hw2 : IntKind.i64.wrap ((vn : Nat) : Int) = ((vn : Nat) : Int) := wrap_i64 (by omega)
  have hR := Read_spec X l
  (refine LWP.seq <| LWP.region (by kernel_rfl) <| K.alloc rfl .plain ?_; refine kas rfl <| RunK.nil <| LWP.seq <| LWP.region (by kernel_rfl) <| kmv rfl <| K.callMp [(1000001, 700)] (Lp 700) (rd 700 l false) (hR) rfl rfl (by exact trivial) rfl rfl rfl rfl rfl (by exact (.box rfl rfl .nil)) .plain <| kas rfl <| RunK.nil <| LWP.seq <| LWP.region (by kernel_rfl) <| kmv rfl <| K.callM [(1000000, 700)] (rd 700 l1 b1) (h1) rfl rfl (by exact (And.intro ⟨_, rfl, rfl⟩ trivial)) (by exact (all_cons_true (all_cons_true rfl (all_cons_true rfl rfl)) rfl)) rfl rfl rfl rfl (by exact (.box rfl rfl .nil)) .plain <| kas rfl <| RunK.nil ?_; refine LWP.seq <| LWP.region (by kernel_rfl) <| kmv rfl <| K.callM [(1000000, 700)] (rd 700 l2 b2) (h2) rfl rfl (by exact (And.intro ⟨_, rfl, rfl⟩ trivial)) (by exact (all_cons_true (all_cons_true rfl (all_cons_true rfl rfl)) rfl)) rfl rfl rfl rfl (by exact (.box rfl rfl .nil)) .plain <| kcv rfl hw2 ?_; refine K.build rfl rfl (by exact rfl) (by exact nl2 rfl rfl rfl) .plain ?_; refine K.alloc rfl .plain ?_; refine K.storeAll rfl rfl rfl rfl rfl rfl .plain ?_; refine RunK.nil <| LWP.seq <| LWP.region (by kernel_rfl) <| kmv rfl <| K.callM [(1000000, 700)] (rd 700 l3 b3) (h3) rfl rfl (by exact (And.intro ⟨_, rfl, rfl⟩ trivial)) (by exact (all_cons_true (all_cons_true rfl (all_cons_true rfl rfl)) rfl)) rfl rfl rfl rfl (by exact (.box rfl rfl .nil)) .plain <| K.makeSlc (m := m) (bytes := 48) rfl rfl hmk (by kernel_rfl) (by omega) rfl rfl .plain <| kfa rfl rfl ?_; refine K.storeOne rfl rfl rfl rfl rfl (nl2 rfl rfl rfl) .plain <| RunK.nil <| LWP.seq <| LWP.seq <| LWP.region (by kernel_rfl) <| kfa rfl rfl ?_; refine kl1 rfl rfl rfl <| K.lenSlc rfl SliceT.h rfl .plain ?_; refine kmv rfl <| RunK.nil <| LWP.block ?_)
  refine LWP.loopL (fun k σ => ∃ (i : Nat) (cs : List Cp) (l' : List UInt8) (b' : Bool) (cells : List Value) (H : Nat → Option Obj), i ≤ m ∧ k = m - i ∧ tCs (l3, b3) i = (cs, l', b') ∧ OwnedM C X H ∧ Twigs H 57 3 [] cells (cs.map fun c => flV c.fs) ∧ σ = dcSt l' b' first.toNat (vn : Nat) m i (rowsZ cs cells ++ zer (m - i)) (joinM X H)) m
    (Leads.le (σ' := dcSt l3 b3 first.toNat (vn : Nat) m 0 (rowsZ [] [] ++ zer (m - 0)) X) ?_ (Leads.done ⟨0, [], l3, b3, [], fun _ => none, by omega, by omega, rfl, OwnedM.nil _ _, Twigs.nil _ _ _ _, rfl⟩)) ?_
  · exact Le.of (by exact ⟨rfl, rfl, rfl, rfl, rfl, rfl, trivial⟩) (by exact ⟨rfl, rfl, rfl, rfl, trivial⟩) (by exact rfl) (by exact rfl) (by repeat' (first | refine all_cons_true ?_ ?_ | rfl | exact bytes_inUse | exact vals_inUse | exact mid_inUse rfl))
  rintro k σ ⟨i, cs, l', b', cells, H, hi, rfl, hT, hO, G, rfl⟩
  have hcn : cs.length = i := by have := tCs_len (l3, b3) i; rw [hT] at this; exact this
  have hl' : l'.length ≤ l3.length := by have := (tCs_less (l3, b3) i).1; rw [hT] at this; exact this
  have hcl : cells.length = cs.length := by rw [G.len, List.length_map]
  have hok : ∀ c ∈ cs, okC c := by have := tCs_ok (l3, b3) i; rw [hT] at this; exact this
  by_cases hlt : i < m
  · have hF := takeComp_t (joinM X H) l' b' (by omega)
    rcases hy : tC (l', b') with ⟨c, l4, b4⟩
    rw [hy] at hF
    simp only at hF
    have hT2 : tCs (l3, b3) (i + 1) = (cs ++ [c], l4, b4) := by simp only [tCs, hT, hy]
    have hix : 0 + Int.toNat (i : Int) * 3 = i * 3 := by rw [Int.toNat_natCast]; omega
    have hpl : (rowsZ cs cells).length = i * 3 := by rw [rowsZ_len hcl, hcn]
    have hroom : i * 3 + 3 ≤ ((rowsZ cs cells ++ zer (m - i)).map CV.val).length := by rw [List.length_map, List.length_append, hpl, zer_len]; omega
    have hspl : splice ((rowsZ cs cells ++ zer (m - i)).map CV.val) (i * 3) [.val (.int .i64 c.id), .val (.string ⟨c.nm.toArray⟩), .slc 30 0 c.fs.length 3] = (rowsZ cs cells ++ [Value.int .i64 c.id, Value.string ⟨c.nm.toArray⟩]).map CV.val ++ .slc 30 0 c.fs.length 3 :: (zer (m - (i + 1))).map .val := by
      unfold splice
      rw [show m - i = (m - (i + 1)) + 1 by omega, zer_succ]
      simp only [List.map_append, List.append_assoc]
      have hml : ((rowsZ cs cells).map CV.val).length = i * 3 := by rw [List.length_map, hpl]
      generalize (rowsZ cs cells).map CV.val = R at *
      rw [← hml, List.take_left, List.drop_length_add_append]
      simp
    have hadd : IntKind.i64.wrap (((i : Nat) : Int) + 1) = ((i + 1 : Nat) : Int) := by rw [wrap_i64 (by omega)]; omega
    (refine LWP.seq <| LWP.region (by kernel_rfl) <| klt rfl rfl (decide_eq_true (by omega)) <| RunK.nil <| LWP.seq <| LWP.condT rfl ?_; refine LWP.skip ?_; refine LWP.seq <| LWP.block <| LWP.seq <| LWP.region (by kernel_rfl) <| kmv rfl <| kas rfl <| RunK.nil <| LWP.draws mixed (by kernel_rfl) <| kfa rfl rfl ?_; refine kl1 rfl rfl rfl <| kmv rfl <| kmv rfl <| K.callMp [(1000000, 700), (1000001, 30)] (.sv (SCs c 30)) (rd 700 l4 b4 ++ [fmB 30 c.fs]) (hF) rfl rfl (by exact (And.intro ⟨_, rfl, rfl⟩ trivial)) (by exact (all_cons_true (all_cons_true rfl (all_cons_true rfl rfl)) rfl)) rfl rfl rfl rfl (by exact (.box rfl rfl (.box rfl (Box.ren_vals _ _ _ _) .nil))) .plain <| K.indexSlc rfl rfl (by omega) hix .plain ?_; refine K.store rfl rfl rfl rfl (by kernel_rfl) hroom hspl .plain <| RunK.nil <| And.intro (by kernel_rfl) ?_; refine LWP.region (by kernel_rfl) <| kad rfl rfl hadd <| kmv rfl <| RunK.nil ?_)
    refine Leads.le (σ' := ⟨[(2, Lp 2), (4, Lp 700), (5, Ln .i64 (first.toNat : Nat)), (6, Lp 6), (22, Ln .i64 (m : Nat)), (23, Ln .i64 (i + 1 : Nat))], [(18, some ⟨60, (rowsZ cs cells ++ [Value.int .i64 c.id, Value.string ⟨c.nm.toArray⟩]).map CV.val ++ .slc 30 0 c.fs.length 3 :: (zer (m - (i + 1))).map .val, false⟩), (30, some ⟨57, (flV c.fs).map .val, false⟩), rdB 700 l4 b4, sdB 6 (vn : Nat) 18 m, szB 2], joinM X H⟩) (Le.of (by exact ⟨rfl, rfl, rfl, rfl, rfl, rfl, trivial⟩) (by exact ⟨rfl, rfl, rfl, rfl, rfl, trivial⟩) (by exact rfl) (by exact rfl) (by repeat' (first | refine all_cons_true ?_ ?_ | rfl | exact bytes_inUse | exact vals_inUse | exact mid_inUse rfl))) ?_
    refine Leads.closeCell hO (flV_len _) rfl vals_inUse vals_inUse rfl rfl rfl fun b o v q1 _ hO3 hv => Leads.done ⟨m - (i + 1), by omega, i + 1, cs ++ [c], l4, b4, cells ++ [v], withBlock H b o, by omega, rfl, hT2, hO3, ?_, ?_⟩
    · rw [List.map_append, List.map_cons, List.map_nil]
      by_cases hf0 : flV c.fs = []
      · rw [hf0] at hv ⊢
        obtain ⟨len, cap', arr, fr, rfl, e2, _⟩ := hv
        have e0 : len = 0 := by rw [List.length_nil] at e2; omega
        subst e0
        exact (G.more q1).pushZ _ _
      · exact G.push q1 hv hf0
    · rw [rowsZ_add hcl]
      unfold dcSt
      simp
  · have e : i = m := by omega
    subst e
    rw [hT] at hS
    simp only at hS
    rw [Nat.sub_self]
    rw [← hcn] at *
    (refine LWP.seq <| LWP.region (by kernel_rfl) <| klt rfl rfl (decide_eq_false (by omega)) <| RunK.nil <| LWP.seq <| LWP.condF rfl ?_; refine LWP.exit <| LWP.seq <| LWP.seq ?_)
    have hin := okC_inB hok
    have hnm := okC_names hok
    refine LWP.le (σ' := ⟨[(2, Lp 2), (4, Lp 700), (5, Ln .i64 (first.toNat : Nat)), (6, Lp 6)], [(18, some ⟨60, (rowsZ cs cells ++ zer 0).map .val, false⟩), rdB 700 l' b', sdB 6 (vn : Nat) 18 cs.length, szB 2], joinM X H⟩) (Le.of (by exact ⟨rfl, rfl, rfl, rfl, trivial⟩) (by exact ⟨rfl, rfl, rfl, rfl, trivial⟩) (by exact rfl) (by exact rfl) (by repeat' (first | refine all_cons_true ?_ ?_ | rfl | exact bytes_inUse | exact vals_inUse | exact mid_inUse rfl))) ?_
    refine sc_shutW hO G hin ?_
    have hk1 := first.toNat_lt
    by_cases hd : (!b' && (l' == [])) = true
    · have hD := Done_spec X l' b' _ rfl
      rw [hd] at hD
      have hd2 : l' = [] ∧ b' = false := by simpa [and_comm] using hd
      obtain ⟨rfl, rfl⟩ := hd2
      by_cases hm : first = 83
      · subst hm
        have hne : ((((83 : UInt8).toNat : Nat) : Int) != 83) = false := by decide
        by_cases hz : chkE ⟨(vn : Nat), cs⟩ = 0
        · rw [if_pos ⟨rfl, rfl, hz⟩] at hS
          obtain ⟨q1, q2⟩ := dc_some hS
          rw [q1, q2]
          have hc := fun (S : Nat → Option (Option Box)) (hk : S 18 = some (some ⟨0, [], .res (scR cs)⟩)) => chk_made X (S := S) (k := 18) (ver := (vn : Nat)) (by omega) hnm hz hk
          (refine LWP.region (by kernel_rfl) <| kmv rfl <| K.callM [(1000000, 700)] (rd 700 [] false) (hD) rfl rfl (by exact (And.intro ⟨_, rfl, rfl⟩ trivial)) (by exact (all_cons_true (all_cons_true rfl (all_cons_true rfl rfl)) rfl)) rfl rfl rfl rfl (by exact (.box rfl rfl .nil)) .plain <| K.not rfl rfl .plain <| kmv rfl <| gmv rfl rfl rfl <| K.neq rfl rfl hne (.taken rfl rfl) ?_; refine kpf rfl rfl <| kmv rfl <| K.loadAll rfl rfl rfl (.taken rfl rfl) ?_; refine K.callL [18] rfl rfl rfl (hc _ rfl) (.taken rfl rfl) ?_; refine K.neq rfl rfl (r := false) (by decide) (.taken rfl rfl) ?_; refine kpf rfl rfl <| RunK.nil <| LWP.condF rfl ?_; refine LWP.skip ?_; refine LWP.seq <| LWP.region (by kernel_rfl) <| K.loadAll rfl rfl rfl .plain ?_; refine K.storeAll rfl rfl rfl rfl rfl rfl .plain ?_; refine kas rfl <| RunK.nil <| LWP.ret ?_)
          exact ⟨[(1000001, 18)], ⟨[_, _], ⟨⟨_, _, rfl, rfl, rfl, .inl ⟨AggT.h, rfl⟩⟩, rfl, trivial⟩, rfl⟩, (by repeat' (first | exact trivial | refine And.intro ⟨_, rfl, ?_⟩ ?_ | refine And.intro ⟨_, rfl⟩ ?_ | rfl | exact Box.ren_bytes _ _ _ _ | exact Box.ren_vals _ _ _ _ | exact Box.ren_mid rfl)), rfl, rfl⟩
        · rw [if_neg fun h => hz h.2.2] at hS
          obtain ⟨q1, q2⟩ := dc_none hS
          rw [q1, q2]
          have hne2 : (chkE ⟨(vn : Nat), cs⟩ != 0) = true := by rw [bne_iff_ne]; exact hz
          have hc := fun (S : Nat → Option (Option Box)) (hk : S 18 = some (some ⟨0, [], .res (scR cs)⟩)) => chk_made X (S := S) (k := 18) (ver := (vn : Nat)) (by omega) hnm rfl hk
          generalize chkE ⟨(vn : Nat), cs⟩ = ce at *
          (refine LWP.region (by kernel_rfl) <| kmv rfl <| K.callM [(1000000, 700)] (rd 700 [] false) (hD) rfl rfl (by exact (And.intro ⟨_, rfl, rfl⟩ trivial)) (by exact (all_cons_true (all_cons_true rfl (all_cons_true rfl rfl)) rfl)) rfl rfl rfl rfl (by exact (.box rfl rfl .nil)) .plain <| K.not rfl rfl .plain <| kmv rfl <| gmv rfl rfl rfl <| K.neq rfl rfl hne (.taken rfl rfl) ?_; refine kpf rfl rfl <| kmv rfl <| K.loadAll rfl rfl rfl (.taken rfl rfl) ?_; refine K.callL [18] rfl rfl rfl (hc _ rfl) (.taken rfl rfl) ?_; refine K.neq rfl rfl hne2 (.taken rfl rfl) ?_; refine kpf rfl rfl <| RunK.nil <| LWP.condT rfl ?_; refine LWP.seq <| LWP.region (by kernel_rfl) <| K.build rfl rfl (by exact rfl) (by exact nl2 rfl rfl rfl) .plain ?_; refine K.storeAll rfl rfl rfl rfl rfl rfl .plain ?_; refine kas rfl <| RunK.nil <| LWP.ret ?_)
          exact ⟨[], ⟨[_, _], ⟨⟨_, _, rfl, rfl, rfl, .inl ⟨AggT.h, rfl⟩⟩, rfl, trivial⟩, rfl⟩, (by repeat' (first | exact trivial | refine And.intro ⟨_, rfl, ?_⟩ ?_ | refine And.intro ⟨_, rfl⟩ ?_ | rfl | exact Box.ren_bytes _ _ _ _ | exact Box.ren_vals _ _ _ _ | exact Box.ren_mid rfl)), rfl, rfl⟩
      · rw [if_neg fun h => hm h.2.1] at hS
        obtain ⟨q1, q2⟩ := dc_none hS
        rw [q1, q2]
        have hne : (((first.toNat : Nat) : Int) != 83) = true := by
          rw [bne_iff_ne]
          intro h
          exact hm (UInt8.toNat_inj.1 (by rw [show (83 : UInt8).toNat = 83 from rfl]; omega))
        (refine LWP.region (by kernel_rfl) <| kmv rfl <| K.callM [(1000000, 700)] (rd 700 [] false) (hD) rfl rfl (by exact (And.intro ⟨_, rfl, rfl⟩ trivial)) (by exact (all_cons_true (all_cons_true rfl (all_cons_true rfl rfl)) rfl)) rfl rfl rfl rfl (by exact (.box rfl rfl .nil)) .plain <| K.not rfl rfl .plain <| kmv rfl <| gmv rfl rfl rfl <| K.neq rfl rfl hne (.taken rfl rfl) ?_; refine kpf rfl rfl <| kmv rfl <| RunK.passed rfl rfl rfl <| RunK.passed rfl rfl rfl <| RunK.passed rfl rfl rfl <| kpt rfl rfl <| RunK.nil <| LWP.condT rfl ?_; refine LWP.seq <| LWP.region (by kernel_rfl) <| K.build rfl rfl (by exact rfl) (by exact nl2 rfl rfl rfl) .plain ?_; refine K.storeAll rfl rfl rfl rfl rfl rfl .plain ?_; refine kas rfl <| RunK.nil <| LWP.ret ?_)
        exact ⟨[], ⟨[_, _], ⟨⟨_, _, rfl, rfl, rfl, .inl ⟨AggT.h, rfl⟩⟩, rfl, trivial⟩, rfl⟩, (by repeat' (first | exact trivial | refine And.intro ⟨_, rfl, ?_⟩ ?_ | refine And.intro ⟨_, rfl⟩ ?_ | rfl | exact Box.ren_bytes _ _ _ _ | exact Box.ren_vals _ _ _ _ | exact Box.ren_mid rfl)), rfl, rfl⟩
    · have hD := Done_spec X l' b' _ rfl
      rw [Bool.not_eq_true] at hd
      rw [hd] at hD
      rw [if_neg] at hS
      · obtain ⟨q1, q2⟩ := dc_none hS
        rw [q1, q2]
        (refine LWP.region (by kernel_rfl) <| kmv rfl <| K.callM [(1000000, 700)] (rd 700 l' b') (hD) rfl rfl (by exact (And.intro ⟨_, rfl, rfl⟩ trivial)) (by exact (all_cons_true (all_cons_true rfl (all_cons_true rfl rfl)) rfl)) rfl rfl rfl rfl (by exact (.box rfl rfl .nil)) .plain <| K.not rfl rfl .plain <| kmv rfl <| RunK.passed rfl rfl rfl <| RunK.passed rfl rfl rfl <| kpt rfl rfl <| kmv rfl <| RunK.passed rfl rfl rfl <| RunK.passed rfl rfl rfl <| RunK.passed rfl rfl rfl <| kpt rfl rfl <| RunK.nil ?_; refine LWP.condT rfl ?_; refine LWP.seq <| LWP.region (by kernel_rfl) <| K.build rfl rfl (by exact rfl) (by exact nl2 rfl rfl rfl) .plain ?_; refine K.storeAll rfl rfl rfl rfl rfl rfl .plain ?_; refine kas rfl <| RunK.nil <| LWP.ret ?_)
        exact ⟨[], ⟨[_, _], ⟨⟨_, _, rfl, rfl, rfl, .inl ⟨AggT.h, rfl⟩⟩, rfl, trivial⟩, rfl⟩, (by repeat' (first | exact trivial | refine And.intro ⟨_, rfl, ?_⟩ ?_ | refine And.intro ⟨_, rfl⟩ ?_ | rfl | exact Box.ren_bytes _ _ _ _ | exact Box.ren_vals _ _ _ _ | exact Box.ren_mid rfl)), rfl, rfl⟩
      · rintro ⟨h, _⟩
        cases h
        simp at hd
theorem cDecode_no (l : List UInt8) (hb : l.length < 1099511627776) (h : decS l = none) : MSpec Tryz.prog X 12 [Ls l] [] (.tup [.agg [.val (.int .i64 0), .val (.slice none 0 0)], Sn .i64 4]) [] := by
  have := cDecode X l hb
  rw [(dc_none h).1, (dc_none h).2] at this
  exact this
theorem cDecode_ok (l : List UInt8) (hb : l.length < 1099511627776) {s : Sc} (h : decS l = some s) : MSpec Tryz.prog X 12 [Ls l] [] (.tup [.agg [.val (.int .i64 s.ver), .slc 1000001 0 s.cs.length 3], Sn .i64 0]) [scB 1000001 s.cs] := by
  have := cDecode X l hb
  rw [(dc_some h).1, (dc_some h).2] at this
  exact this
end Go.Proofs.YtnomcmklhbjfjaaGreatDoor
end
section
namespace Go.Proofs.YtnomcmklhbjfjaaGreatDoor
open Go Go.Lg
variable (X : Nat → Option Obj)
theorem WName_1 (l s : List UInt8) (hn : fitW 1 (s.length : Nat) = true) (hs : s.length < 100000000) (hl : l.length < 800000000) : MSpec Tryz.prog X 52 [Lp 1000000, Ls s] (w1 1000000 1000001 1000002 l) (Lb true) (w1 1000000 1000001 1000003 ((l ++ leB 1 s.length) ++ s) ++ [(1000002, none)]) := by
  have hf : s.length < 256 ^ 1 := by unfold fitW at hn; simp only [Bool.and_eq_true, decide_eq_true_eq] at hn; exact hn.2
  refine MSpec.intro Tryz.func52 rfl (by kernel_rfl) rfl rfl (by repeat' (first | refine all_cons_true ?_ ?_ | rfl | exact bytes_inUse | exact vals_inUse | exact mid_inUse rfl)) rfl rfl ?_
  intro C
  have hz : (⟨s.toArray⟩ : ByteArray).size = s.length := rfl
  have wl : IntKind.u64.wrap (((⟨s.toArray⟩ : ByteArray).size : Nat) : Int) = (s.length : Nat) := by rw [wrap_u64 (by omega)]; rfl
  (refine LWP.seq <| LWP.region (by kernel_rfl) <| kas rfl <| RunK.nil <| LWP.seq <| LWP.region (by kernel_rfl) <| kmv rfl <| kmv rfl <| kln rfl <| kcv rfl wl ?_; refine K.callM [(1000003, 501)] (w1 1000000 1000001 501 (l ++ leB 1 s.length) ++ [(1000002, none)]) (WNum_1_1 X l s.length (by omega) hf (by omega)) rfl rfl (by exact (And.intro ⟨_, rfl, rfl⟩ (And.intro ⟨_, rfl, rfl⟩ (And.intro ⟨_, rfl, (Box.ren_bytes _ _ _ _)⟩ trivial)))) (by exact (all_cons_true (all_cons_true rfl (all_cons_true rfl rfl)) (all_cons_true (all_cons_true rfl rfl) (all_cons_true bytes_inUse rfl)))) rfl rfl rfl rfl (by exact (.box rfl rfl (.box rfl rfl (.box rfl (Box.ren_bytes _ _ _ _) (.dead rfl .nil))))) .plain <| kmv rfl <| gmv rfl rfl rfl <| gmv rfl rfl rfl <| K.callM [(1000002, 501), (1000003, 503)] (w1 1000000 1000001 503 ((l ++ leB 1 s.length) ++ s) ++ [(501, none)]) (WRaw_1 X (l ++ leB 1 s.length) s (by rw [List.length_append, leB_length]; omega)) rfl rfl (by exact (And.intro ⟨_, rfl, rfl⟩ (And.intro ⟨_, rfl, rfl⟩ (And.intro ⟨_, rfl, (Box.ren_bytes _ _ _ _)⟩ trivial)))) (by exact (all_cons_true (all_cons_true rfl (all_cons_true rfl rfl)) (all_cons_true (all_cons_true rfl rfl) (all_cons_true bytes_inUse rfl)))) rfl rfl rfl rfl (by exact (.box rfl rfl (.box rfl rfl (.box rfl (Box.ren_bytes _ _ _ _) (.dead rfl .nil))))) (.taken rfl rfl) ?_; refine kpt rfl rfl <| kas rfl <| RunK.nil <| LWP.ret ?_)
  exact ⟨[(1000003, 503)], ⟨[_], ⟨rfl, trivial⟩, rfl⟩, (by repeat' (first | exact trivial | refine And.intro ⟨_, rfl, ?_⟩ ?_ | refine And.intro ⟨_, rfl⟩ ?_ | rfl | exact Box.ren_bytes _ _ _ _ | exact Box.ren_vals _ _ _ _ | exact Box.ren_mid rfl)), rfl, rfl⟩
end Go.Proofs.YtnomcmklhbjfjaaGreatDoor
end
section
namespace Go.Lg.Fld
open Go Go.Lg
theorem leB1 {n : Nat} (h : n < 256) : Go.Lg.leB 1 n = [by8 (n : Nat)] := by
  simp only [Go.Lg.leB]
  congr 1
theorem leB4 {v : Int} {n : Nat} (h : v = (n : Nat)) : Go.Lg.leB 4 n = [by8 v, by8 (v / 256), by8 (v / 65536), by8 (v / 16777216)] := by
  subst h
  simp only [Go.Lg.leB]
  have e : ∀ (a : Nat) (b : Int), (a : Int) % 256 = b % 256 → UInt8.ofNat a = by8 b := fun a b hab => by
    apply UInt8.toNat_inj.1
    unfold by8
    rw [UInt8.toNat_ofNat', UInt8.toNat_ofNat']
    omega
  refine congr (congrArg _ (e _ _ (by omega))) (congr (congrArg _ (e _ _ (by omega))) (congr (congrArg _ (e _ _ (by omega))) (congr (congrArg _ (e _ _ (by omega))) rfl)))
end Go.Lg.Fld
namespace Go.Proofs.YtnomcmklhbjfjaaGreatDoor
open Go Go.Lg Go.Lg.Fld
set_option maxRecDepth 100000
variable (X : Nat → Option Obj)
theorem putSmall_0 (n : Int) (h : 0 ≤ n ∧ n < 256) : MSpec Tryz.prog X 23 [Lp 1000000, Ln .i64 n] (w0 1000000) (.tup []) (w1 1000000 1000001 1000002 [by8 n]) := by
  obtain ⟨k, rfl⟩ := Int.eq_ofNat_of_zero_le h.1
  have hk : k < 256 := by omega
  have hN := WNum_0_1 X k (by omega) (by omega)
  rw [leB1 hk] at hN
  refine MSpec.intro Tryz.func23 rfl (by kernel_rfl) rfl rfl (by repeat' (first | refine all_cons_true ?_ ?_ | rfl | exact bytes_inUse | exact vals_inUse | exact mid_inUse rfl)) rfl rfl ?_
  intro C
  have hw : IntKind.u64.wrap ((k : Nat) : Int) = ((k : Nat) : Int) := wrap_u64 (by omega)
  (refine LWP.region (by kernel_rfl) <| kmv rfl <| kmv rfl <| kcv rfl hw ?_; refine K.callM [(1000001, 501), (1000002, 502)] (w1 1000000 501 502 [by8 (k : Nat)]) (hN) rfl rfl (by exact (And.intro ⟨_, rfl, rfl⟩ trivial)) (by exact (all_cons_true (all_cons_true rfl (all_cons_true rfl rfl)) rfl)) rfl rfl rfl rfl (by exact (.box rfl rfl (.box rfl rfl (.box rfl rfl .nil)))) .plain <| RunK.nil ?_)
  exact ⟨[(1000001, 501), (1000002, 502)], ⟨[], trivial, rfl⟩, (by repeat' (first | exact trivial | refine And.intro ⟨_, rfl, ?_⟩ ?_ | refine And.intro ⟨_, rfl⟩ ?_ | rfl | exact Box.ren_bytes _ _ _ _ | exact Box.ren_vals _ _ _ _ | exact Box.ren_mid rfl)), rfl, rfl⟩
theorem putSmall_1 (l : List UInt8) (n : Int) (h : 0 ≤ n ∧ n < 256) (hl : l.length < 900000000) : MSpec Tryz.prog X 23 [Lp 1000000, Ln .i64 n] (w1 1000000 1000001 1000002 l) (.tup []) (w1 1000000 1000001 1000003 (l ++ [by8 n]) ++ [(1000002, none)]) := by
  obtain ⟨k, rfl⟩ := Int.eq_ofNat_of_zero_le h.1
  have hk : k < 256 := by omega
  have hN := WNum_1_1 X l k (by omega) (by omega) hl
  rw [leB1 hk] at hN
  refine MSpec.intro Tryz.func23 rfl (by kernel_rfl) rfl rfl (by repeat' (first | refine all_cons_true ?_ ?_ | rfl | exact bytes_inUse | exact vals_inUse | exact mid_inUse rfl)) rfl rfl ?_
  intro C
  have hw : IntKind.u64.wrap ((k : Nat) : Int) = ((k : Nat) : Int) := wrap_u64 (by omega)
  (refine LWP.region (by kernel_rfl) <| kmv rfl <| kmv rfl <| kcv rfl hw ?_; refine K.callM [(1000003, 501)] (w1 1000000 1000001 501 (l ++ [by8 (k : Nat)]) ++ [(1000002, none)]) (hN) rfl rfl (by exact (And.intro ⟨_, rfl, rfl⟩ (And.intro ⟨_, rfl, rfl⟩ (And.intro ⟨_, rfl, (Box.ren_bytes _ _ _ _)⟩ trivial)))) (by exact (all_cons_true (all_cons_true rfl (all_cons_true rfl rfl)) (all_cons_true (all_cons_true rfl rfl) (all_cons_true bytes_inUse rfl)))) rfl rfl rfl rfl (by exact (.box rfl rfl (.box rfl rfl (.box rfl (Box.ren_bytes _ _ _ _) (.dead rfl .nil))))) .plain <| RunK.nil ?_)
  exact ⟨[(1000003, 501)], ⟨[], trivial, rfl⟩, (by repeat' (first | exact trivial | refine And.intro ⟨_, rfl, ?_⟩ ?_ | refine And.intro ⟨_, rfl⟩ ?_ | rfl | exact Box.ren_bytes _ _ _ _ | exact Box.ren_vals _ _ _ _ | exact Box.ren_mid rfl)), rfl, rfl⟩
theorem putName_1 (l s : List UInt8) (hs : okT s) (hl : l.length < 800000000) : MSpec Tryz.prog X 52 [Lp 1000000, Ls s] (w1 1000000 1000001 1000002 l) (Lb true) (w1 1000000 1000001 1000003 (l ++ encT s) ++ [(1000002, none)]) := by
  unfold okT at hs
  have h := WName_1 X l s (by unfold fitW; rw [decide_eq_true (by show s.length < 256; omega)]; rfl) (by omega) hl
  rw [show (Go.Lg.leB 1 s.length) = [by8 (s.length : Nat)] from leB1 hs, List.append_assoc] at h
  exact h
abbrev pcSt (l : List UInt8) (c : Cp) (fad : Option Addr) (fcap i : Nat) (X : Nat → Option Obj) : St :=
  ⟨[(0, Lp 1000000), (3, Lp 3), (20, Lx fad c.fs.length fcap), (21, Ln .i64 (c.fs.length : Nat)), (22, Ln .i64 (i : Nat))], w1 1000000 1000001 500 l ++ [cpB 3 c fad fcap, (1000002, none)], X⟩
set_option maxHeartbeats 3200000 in
theorem putComp_t (l : List UInt8) (c : Cp) (fad : Option Addr) (fcap : Nat) (hF : FieldsIn X fad c.fs) (hok : okC c) (hl : l.length < 700000000) :
    MSpec Tryz.prog X 25 [Lp 1000000, Cx c fad fcap] (w1 1000000 1000001 1000002 l) (.tup []) (w1 1000000 1000001 1000003 (l ++ encC c) ++ [(1000002, none)]) := by
  obtain ⟨c1, c2, c3, c4⟩ := hok
  have hnl : (encT c.nm).length < 257 := by unfold okT at c2; unfold encT; rw [List.length_cons]; omega
  have p1 := putSmall_1 X l c.id c1 (by omega)
  have p2 := putName_1 X (l ++ [by8 c.id]) c.nm c2 (by rw [List.length_append, List.length_singleton]; omega)
  have p3 := putSmall_1 X ((l ++ [by8 c.id]) ++ encT c.nm) (c.fs.length : Nat) ⟨by omega, by omega⟩ (by rw [List.length_append, List.length_append, List.length_singleton]; omega)
  have hfin : l ++ encC c = (((l ++ [by8 c.id]) ++ encT c.nm) ++ [by8 (c.fs.length : Nat)]) ++ encFs c.fs := by unfold encC; simp
  have hPl : (((l ++ [by8 c.id]) ++ encT c.nm) ++ [by8 (c.fs.length : Nat)]).length ≤ l.length + 259 := by simp only [List.length_append, List.length_singleton]; omega
  refine MSpec.intro Tryz.func25 rfl (by kernel_rfl) rfl rfl (by repeat' (first | refine all_cons_true ?_ ?_ | rfl | exact bytes_inUse | exact vals_inUse | exact mid_inUse rfl)) rfl rfl ?_
  intro C
  (refine LWP.seq <| LWP.region (by kernel_rfl) <| K.box rfl rfl rfl .plain <| RunK.nil <| LWP.seq <| LWP.region (by kernel_rfl) <| kmv rfl <| kfa rfl rfl ?_; refine kl1 rfl rfl rfl <| K.callM [(1000003, 501)] (w1 1000000 1000001 501 (l ++ [by8 c.id]) ++ [(1000002, none)]) (p1) rfl rfl (by exact (And.intro ⟨_, rfl, rfl⟩ (And.intro ⟨_, rfl, rfl⟩ (And.intro ⟨_, rfl, (Box.ren_bytes _ _ _ _)⟩ trivial)))) (by exact (all_cons_true (all_cons_true rfl (all_cons_true rfl rfl)) (all_cons_true (all_cons_true rfl rfl) (all_cons_true bytes_inUse rfl)))) rfl rfl rfl rfl (by exact (.box rfl rfl (.box rfl rfl (.box rfl (Box.ren_bytes _ _ _ _) (.dead rfl .nil))))) .plain <| RunK.nil <| LWP.seq <| LWP.region (by kernel_rfl) <| kmv rfl <| kfa rfl rfl ?_; refine kl1 rfl rfl rfl <| K.callM [(1000002, 501), (1000003, 502)] (w1 1000000 1000001 502 ((l ++ [by8 c.id]) ++ encT c.nm) ++ [(501, none)]) (p2) rfl rfl (by exact (And.intro ⟨_, rfl, rfl⟩ (And.intro ⟨_, rfl, rfl⟩ (And.intro ⟨_, rfl, (Box.ren_bytes _ _ _ _)⟩ trivial)))) (by exact (all_cons_true (all_cons_true rfl (all_cons_true rfl rfl)) (all_cons_true (all_cons_true rfl rfl) (all_cons_true bytes_inUse rfl)))) rfl rfl rfl rfl (by exact (.box rfl rfl (.box rfl rfl (.box rfl (Box.ren_bytes _ _ _ _) (.dead rfl .nil))))) .plain <| RunK.nil <| LWP.seq <| LWP.region (by kernel_rfl) <| kmv rfl <| kfa rfl rfl ?_; refine kl1 rfl rfl rfl <| K.lenX rfl SliceT.h rfl .plain ?_; refine K.callM [(1000002, 502), (1000003, 503)] (w1 1000000 1000001 503 (((l ++ [by8 c.id]) ++ encT c.nm) ++ [by8 (c.fs.length : Nat)]) ++ [(502, none)]) (p3) rfl rfl (by exact (And.intro ⟨_, rfl, rfl⟩ (And.intro ⟨_, rfl, rfl⟩ (And.intro ⟨_, rfl, (Box.ren_bytes _ _ _ _)⟩ trivial)))) (by exact (all_cons_true (all_cons_true rfl (all_cons_true rfl rfl)) (all_cons_true (all_cons_true rfl rfl) (all_cons_true bytes_inUse rfl)))) rfl rfl rfl rfl (by exact (.box rfl rfl (.box rfl rfl (.box rfl (Box.ren_bytes _ _ _ _) (.dead rfl .nil))))) .plain <| RunK.nil <| LWP.seq <| LWP.region (by kernel_rfl) <| kfa rfl rfl ?_; refine kl1 rfl rfl rfl <| K.lenX rfl SliceT.h rfl .plain ?_; refine kmv rfl <| RunK.nil <| LWP.block ?_)
  rw [hfin]
  generalize hP : (((l ++ [by8 c.id]) ++ encT c.nm) ++ [by8 (c.fs.length : Nat)]) = P at *
  refine LWP.loop (fun m σ => ∃ i : Nat, i ≤ c.fs.length ∧ m = c.fs.length - i ∧ σ = pcSt (P ++ encFs (c.fs.take i)) c fad fcap i X) c.fs.length
    ⟨pcSt (P ++ encFs (c.fs.take 0)) c fad fcap 0 X, by
      rw [show P ++ encFs (c.fs.take 0) = P from List.append_nil _]
      exact Le.ofR [(500, 503)] (by exact ⟨rfl, rfl, rfl, rfl, rfl, trivial⟩) (by repeat' (first | exact trivial | refine And.intro ⟨_, rfl, ?_⟩ ?_ | refine And.intro ⟨_, rfl⟩ ?_ | rfl | exact Box.ren_bytes _ _ _ _ | exact Box.ren_vals _ _ _ _ | exact Box.ren_mid rfl)) (by exact rfl) (by exact rfl) (by repeat' (first | refine all_cons_true ?_ ?_ | rfl | exact bytes_inUse | exact vals_inUse | exact mid_inUse rfl)) (by exact rfl) (by exact rfl), 0, Nat.zero_le _, rfl, rfl⟩ ?_
  rintro m σ ⟨i, hi, rfl, rfl⟩
  by_cases hlt : i < c.fs.length
  · obtain ⟨f, hf⟩ : ∃ f, c.fs[i]? = some f := ⟨_, List.getElem?_eq_getElem hlt⟩
    obtain ⟨fb, fo, farr, fel, ffr, rfl, hFX, hfz, hfc⟩ := hF.at hf
    have hio : fo + Int.toNat (i : Int) * 3 = fo + i * 3 := by simp
    obtain ⟨f1, f2, f3⟩ := c4 f (List.mem_of_getElem? hf)
    have hfl := encFs_len (fs := c.fs.take i) fun f hf => c4 f (List.mem_of_mem_take hf)
    rw [List.length_take] at hfl
    have hBl : (P ++ encFs (c.fs.take i)).length ≤ l.length + 259 + 256 * 258 := by rw [List.length_append]; omega
    have hsn := encFs_snoc hf
    have hfn : (encT f.nm).length < 257 := by unfold okT at f1; unfold encT; rw [List.length_cons]; omega
    have hnext : P ++ encFs (c.fs.take (i + 1)) = (((P ++ encFs (c.fs.take i)) ++ encT f.nm) ++ [by8 f.kind]) ++ [by8 f.count] := by rw [hsn]; unfold encF; simp
    generalize P ++ encFs (c.fs.take i) = B at *
    have q1 := putName_1 X B f.nm f1 (by omega)
    have q2 := putSmall_1 X (B ++ encT f.nm) f.kind f2 (by rw [List.length_append]; omega)
    have q3 := putSmall_1 X ((B ++ encT f.nm) ++ [by8 f.kind]) f.count f3 (by rw [List.length_append, List.length_append, List.length_singleton]; omega)
    have hadd : IntKind.i64.wrap (((i : Nat) : Int) + 1) = ((i + 1 : Nat) : Int) := by rw [wrap_i64 (by omega)]; omega
    (refine LWP.seq <| LWP.region (by kernel_rfl) <| klt rfl rfl (decide_eq_true (by omega)) <| RunK.nil <| LWP.seq <| LWP.condT rfl ?_; refine LWP.skip ?_; refine LWP.seq <| LWP.block <| LWP.seq <| LWP.region (by kernel_rfl) <| K.indexX rfl rfl SliceT.h (by omega) hio .plain <| K.loadXagg rfl hFX (by kernel_rfl) hfz hfc .plain <| K.alloc rfl .plain ?_; refine K.storeAll rfl rfl rfl rfl rfl rfl .plain ?_; refine RunK.nil <| LWP.seq <| LWP.region (by kernel_rfl) <| kmv rfl <| kfa rfl rfl ?_; refine kl1 rfl rfl rfl <| K.callM [(1000002, 500), (1000003, 501)] (w1 1000000 1000001 501 (B ++ encT f.nm) ++ [(500, none)]) (q1) rfl rfl (by exact (And.intro ⟨_, rfl, rfl⟩ (And.intro ⟨_, rfl, rfl⟩ (And.intro ⟨_, rfl, (Box.ren_bytes _ _ _ _)⟩ trivial)))) (by exact (all_cons_true (all_cons_true rfl (all_cons_true rfl rfl)) (all_cons_true (all_cons_true rfl rfl) (all_cons_true bytes_inUse rfl)))) rfl rfl rfl rfl (by exact (.box rfl rfl (.box rfl rfl (.box rfl (Box.ren_bytes _ _ _ _) (.dead rfl .nil))))) .plain <| RunK.nil <| LWP.seq <| LWP.region (by kernel_rfl) <| kmv rfl <| kfa rfl rfl ?_; refine kl1 rfl rfl rfl <| K.callM [(1000002, 501), (1000003, 502)] (w1 1000000 1000001 502 ((B ++ encT f.nm) ++ [by8 f.kind]) ++ [(501, none)]) (q2) rfl rfl (by exact (And.intro ⟨_, rfl, rfl⟩ (And.intro ⟨_, rfl, rfl⟩ (And.intro ⟨_, rfl, (Box.ren_bytes _ _ _ _)⟩ trivial)))) (by exact (all_cons_true (all_cons_true rfl (all_cons_true rfl rfl)) (all_cons_true (all_cons_true rfl rfl) (all_cons_true bytes_inUse rfl)))) rfl rfl rfl rfl (by exact (.box rfl rfl (.box rfl rfl (.box rfl (Box.ren_bytes _ _ _ _) (.dead rfl .nil))))) .plain <| RunK.nil <| LWP.region (by kernel_rfl) <| kmv rfl <| kfa rfl rfl ?_; refine kl1 rfl rfl rfl <| K.callM [(1000002, 502), (1000003, 503)] (w1 1000000 1000001 503 (((B ++ encT f.nm) ++ [by8 f.kind]) ++ [by8 f.count]) ++ [(502, none)]) (q3) rfl rfl (by exact (And.intro ⟨_, rfl, rfl⟩ (And.intro ⟨_, rfl, rfl⟩ (And.intro ⟨_, rfl, (Box.ren_bytes _ _ _ _)⟩ trivial)))) (by exact (all_cons_true (all_cons_true rfl (all_cons_true rfl rfl)) (all_cons_true (all_cons_true rfl rfl) (all_cons_true bytes_inUse rfl)))) rfl rfl rfl rfl (by exact (.box rfl rfl (.box rfl rfl (.box rfl (Box.ren_bytes _ _ _ _) (.dead rfl .nil))))) .plain <| RunK.nil <| LWP.region (by kernel_rfl) <| kad rfl rfl hadd <| kmv rfl <| RunK.nil ?_)
    rw [← hnext]
    exact ⟨_, pcSt (P ++ encFs (c.fs.take (i + 1))) c (some ⟨fb, fo, none⟩) fcap (i + 1) X, by omega, Le.ofR [(500, 503)] (by exact ⟨rfl, rfl, rfl, rfl, rfl, trivial⟩) (by repeat' (first | exact trivial | refine And.intro ⟨_, rfl, ?_⟩ ?_ | refine And.intro ⟨_, rfl⟩ ?_ | rfl | exact Box.ren_bytes _ _ _ _ | exact Box.ren_vals _ _ _ _ | exact Box.ren_mid rfl)) (by exact rfl) (by exact rfl) (by repeat' (first | refine all_cons_true ?_ ?_ | rfl | exact bytes_inUse | exact vals_inUse | exact mid_inUse rfl)) (by exact rfl) (by exact rfl), i + 1, by omega, rfl, rfl⟩
  · have e : i = c.fs.length := by omega
    subst e
    rw [List.take_length]
    (refine LWP.seq <| LWP.region (by kernel_rfl) <| klt rfl rfl (decide_eq_false (by omega)) <| RunK.nil <| LWP.seq <| LWP.condF rfl ?_; refine LWP.exit ?_)
    exact ⟨[(1000003, 500)], ⟨[], trivial, rfl⟩, (by repeat' (first | exact trivial | refine And.intro ⟨_, rfl, ?_⟩ ?_ | refine And.intro ⟨_, rfl⟩ ?_ | rfl | exact Box.ren_bytes _ _ _ _ | exact Box.ren_vals _ _ _ _ | exact Box.ren_mid rfl)), rfl, rfl⟩
abbrev ecSt (l : List UInt8) (ver : Int) (ad : Option Addr) (n cap i : Nat) (X : Nat → Option Obj) : St :=
  ⟨[(1, Lp 1), (5, Lp 14), (28, Lx ad n cap), (29, Ln .i64 (n : Nat)), (30, Ln .i64 (i : Nat))], w1 14 601 500 l ++ [sxB 1 ver ad n cap], X⟩
set_option maxHeartbeats 3200000 in
theorem cEncode (s : Sc) (ad : Option Addr) (cap : Nat) (hin : CompsIn X ad s.cs) (hS : SmallC8 s.cs) : PSpec Tryz.prog X 9 [Sx s.ver ad s.cs.length cap] (.tup [Ss (encTx s), Sn .i64 (chkE s)]) := by
  have hc := pCheck8 X s ad cap hin hS (chkE s) rfl
  unfold encTx
  by_cases hz : chkE s = 0
  · rw [if_pos hz]
    rw [hz] at hc ⊢
    obtain ⟨hv, hn, hok⟩ := ok_of_check hz
    obtain ⟨ver, cs⟩ := s
    simp only at hin hv hn hok hc ⊢
    obtain ⟨vn, rfl⟩ := Int.eq_ofNat_of_zero_le (show 0 ≤ ver by omega)
    have p1 := putSmall_0 X 83 (by decide)
    have p2 := WNum_1_4 X [by8 83] vn (by omega) (by have : (256 : Nat) ^ 4 = 4294967296 := by decide
                                                     omega) (by decide)
    rw [leB4 rfl] at p2
    have p3 := putSmall_1 X ([by8 83] ++ [by8 (vn : Nat), by8 ((vn : Nat) / 256), by8 ((vn : Nat) / 65536), by8 ((vn : Nat) / 16777216)]) (cs.length : Nat) ⟨by omega, by omega⟩ (by show 5 < 900000000; decide)
    have hw : IntKind.u64.wrap ((vn : Nat) : Int) = ((vn : Nat) : Int) := wrap_u64 (by omega)
    refine PSpec.intro Tryz.func9 rfl (by kernel_rfl) rfl rfl ?_
    intro C
    (refine LWP.seq <| LWP.region (by kernel_rfl) <| K.box rfl rfl rfl .plain <| kas rfl <| kas rfl <| RunK.nil <| LWP.seq <| LWP.seq <| LWP.region (by kernel_rfl) <| K.loadAll rfl rfl rfl .plain ?_; refine kca rfl rfl hc <| kas rfl <| RunK.nil <| LWP.seq <| LWP.region (by kernel_rfl) <| kmv rfl <| kne rfl rfl ((bne_eq_false_iff_eq.2 (by omega))) <| RunK.nil <| LWP.condF rfl ?_; refine LWP.skip ?_; refine LWP.seq <| LWP.region (by kernel_rfl) <| K.build rfl rfl (by exact rfl) (by exact nl2 rfl rfl rfl) .plain ?_; refine K.box rfl rfl rfl .plain <| kas rfl <| RunK.nil <| LWP.seq <| LWP.region (by kernel_rfl) <| kmv rfl <| K.callM [(1000000, 14), (1000001, 601), (1000002, 602)] (w1 14 601 602 [by8 83]) (p1) rfl rfl (by exact (And.intro ⟨_, rfl, rfl⟩ trivial)) (by exact (all_cons_true (all_cons_true rfl (all_cons_true rfl rfl)) rfl)) rfl rfl rfl rfl (by exact (.box rfl rfl (.box rfl rfl (.box rfl rfl .nil)))) .plain <| RunK.nil <| LWP.seq <| LWP.region (by kernel_rfl) <| kmv rfl <| kfa rfl rfl ?_; refine kl1 rfl rfl rfl <| kcv rfl hw ?_; refine K.callM [(1000000, 14), (1000001, 601), (1000002, 602), (1000003, 603)] (w1 14 601 603 ([by8 83] ++ [by8 (vn : Nat), by8 ((vn : Nat) / 256), by8 ((vn : Nat) / 65536), by8 ((vn : Nat) / 16777216)]) ++ [(602, none)]) (p2) rfl rfl (by exact (And.intro ⟨_, rfl, rfl⟩ (And.intro ⟨_, rfl, rfl⟩ (And.intro ⟨_, rfl, rfl⟩ trivial)))) (by exact (all_cons_true (all_cons_true rfl (all_cons_true rfl rfl)) (all_cons_true (all_cons_true rfl rfl) (all_cons_true (all_cons_true rfl rfl) rfl)))) rfl rfl rfl rfl (by exact (.box rfl rfl (.box rfl rfl (.box rfl rfl (.dead rfl .nil))))) .plain <| RunK.nil <| LWP.seq <| LWP.region (by kernel_rfl) <| kmv rfl <| kfa rfl rfl ?_; refine kl1 rfl rfl rfl <| K.lenX rfl SliceT.h rfl .plain ?_; refine K.callM [(1000000, 14), (1000001, 601), (1000002, 603), (1000003, 604)] (w1 14 601 604 (([by8 83] ++ [by8 (vn : Nat), by8 ((vn : Nat) / 256), by8 ((vn : Nat) / 65536), by8 ((vn : Nat) / 16777216)]) ++ [by8 (cs.length : Nat)]) ++ [(603, none)]) (p3) rfl rfl (by exact (And.intro ⟨_, rfl, rfl⟩ (And.intro ⟨_, rfl, rfl⟩ (And.intro ⟨_, rfl, rfl⟩ trivial)))) (by exact (all_cons_true (all_cons_true rfl (all_cons_true rfl rfl)) (all_cons_true (all_cons_true rfl rfl) (all_cons_true (all_cons_true rfl (all_cons_true rfl (all_cons_true rfl (all_cons_true rfl (all_cons_true rfl rfl))))) rfl)))) rfl rfl rfl rfl (by exact (.box rfl rfl (.box rfl rfl (.box rfl rfl (.dead rfl .nil))))) .plain <| RunK.nil <| LWP.seq <| LWP.seq <| LWP.region (by kernel_rfl) <| kfa rfl rfl ?_; refine kl1 rfl rfl rfl <| K.lenX rfl SliceT.h rfl .plain ?_; refine kmv rfl <| RunK.nil <| LWP.block ?_)
    have hfin : encS ⟨(vn : Nat), cs⟩ = (([by8 83] ++ [by8 (vn : Nat), by8 ((vn : Nat) / 256), by8 ((vn : Nat) / 65536), by8 ((vn : Nat) / 16777216)]) ++ [by8 (cs.length : Nat)]) ++ encCs cs := rfl
    rw [hfin]
    have hPl : (([by8 83] ++ [by8 (vn : Nat), by8 ((vn : Nat) / 256), by8 ((vn : Nat) / 65536), by8 ((vn : Nat) / 16777216)]) ++ [by8 (cs.length : Nat)]).length = 6 := rfl
    generalize (([by8 83] ++ [by8 (vn : Nat), by8 ((vn : Nat) / 256), by8 ((vn : Nat) / 65536), by8 ((vn : Nat) / 16777216)]) ++ [by8 (cs.length : Nat)]) = P at *
    refine LWP.loop (fun m σ => ∃ i : Nat, i ≤ cs.length ∧ m = cs.length - i ∧ σ = ecSt (P ++ encCs (cs.take i)) (vn : Nat) ad cs.length cap i X) cs.length
      ⟨ecSt (P ++ encCs (cs.take 0)) (vn : Nat) ad cs.length cap 0 X, by
        rw [show P ++ encCs (cs.take 0) = P from List.append_nil _]
        exact Le.ofR [(500, 604)] (by exact ⟨rfl, rfl, rfl, rfl, rfl, trivial⟩) (by repeat' (first | exact trivial | refine And.intro ⟨_, rfl, ?_⟩ ?_ | refine And.intro ⟨_, rfl⟩ ?_ | rfl | exact Box.ren_bytes _ _ _ _ | exact Box.ren_vals _ _ _ _ | exact Box.ren_mid rfl)) (by exact rfl) (by exact rfl) (by repeat' (first | refine all_cons_true ?_ ?_ | rfl | exact bytes_inUse | exact vals_inUse | exact mid_inUse rfl)) (by exact rfl) (by exact rfl), 0, Nat.zero_le _, rfl, rfl⟩ ?_
    rintro m σ ⟨i, hi, rfl, rfl⟩
    have hpl := encCs_len (cs := cs.take i) fun c hc => hok c (List.mem_of_mem_take hc)
    rw [List.length_take] at hpl
    have hBl : (P ++ encCs (cs.take i)).length ≤ 6 + 24 * 70000 := by rw [List.length_append, hPl]; omega
    by_cases hlt : i < cs.length
    · obtain ⟨c, hcc⟩ : ∃ c, cs[i]? = some c := ⟨_, List.getElem?_eq_getElem hlt⟩
      obtain ⟨blk, off, arr, el, fr, fad, fcap, rfl, hX, hsz, hcs, _, _, _, hF⟩ := hin.get hcc
      have hio : off + Int.toNat (i : Int) * 3 = off + i * 3 := by simp
      have hnext : P ++ encCs (cs.take (i + 1)) = (P ++ encCs (cs.take i)) ++ encC c := by rw [encCs_snoc hcc]; simp
      have hadd : IntKind.i64.wrap (((i : Nat) : Int) + 1) = ((i + 1 : Nat) : Int) := by rw [wrap_i64 (by omega)]; omega
      have q := putComp_t X (P ++ encCs (cs.take i)) c fad fcap hF (hok c (List.mem_of_getElem? hcc)) (by omega)
      rw [← hnext] at q
      (refine LWP.seq <| LWP.region (by kernel_rfl) <| klt rfl rfl (decide_eq_true (by omega)) <| RunK.nil <| LWP.seq <| LWP.condT rfl ?_; refine LWP.skip ?_; refine LWP.seq <| LWP.block <| LWP.seq <| LWP.region (by kernel_rfl) <| K.indexX rfl rfl SliceT.h (by omega) hio .plain <| K.loadXagg rfl hX (by kernel_rfl) hsz hcs .plain <| K.alloc rfl .plain ?_; refine K.storeAll rfl rfl rfl rfl rfl rfl .plain ?_; refine RunK.nil <| LWP.region (by kernel_rfl) <| kmv rfl <| K.loadAll rfl rfl rfl .plain ?_; refine K.callM [(1000000, 14), (1000001, 601), (1000002, 500), (1000003, 605)] (w1 14 601 605 (P ++ encCs (cs.take (i + 1))) ++ [(500, none)]) (q) rfl rfl (by exact (And.intro ⟨_, rfl, rfl⟩ (And.intro ⟨_, rfl, rfl⟩ (And.intro ⟨_, rfl, (Box.ren_bytes _ _ _ _)⟩ trivial)))) (by exact (all_cons_true (all_cons_true rfl (all_cons_true rfl rfl)) (all_cons_true (all_cons_true rfl rfl) (all_cons_true bytes_inUse rfl)))) rfl rfl rfl rfl (by exact (.box rfl rfl (.box rfl rfl (.box rfl (Box.ren_bytes _ _ _ _) (.dead rfl .nil))))) .plain <| RunK.nil <| LWP.region (by kernel_rfl) <| kad rfl rfl hadd <| kmv rfl <| RunK.nil ?_)
      exact ⟨_, ecSt (P ++ encCs (cs.take (i + 1))) (vn : Nat) (some ⟨blk, off, none⟩) cs.length cap (i + 1) X, by omega, Le.ofR [(500, 605)] (by exact ⟨rfl, rfl, rfl, rfl, rfl, trivial⟩) (by repeat' (first | exact trivial | refine And.intro ⟨_, rfl, ?_⟩ ?_ | refine And.intro ⟨_, rfl⟩ ?_ | rfl | exact Box.ren_bytes _ _ _ _ | exact Box.ren_vals _ _ _ _ | exact Box.ren_mid rfl)) (by exact rfl) (by exact rfl) (by repeat' (first | refine all_cons_true ?_ ?_ | rfl | exact bytes_inUse | exact vals_inUse | exact mid_inUse rfl)) (by exact rfl) (by exact rfl), i + 1, by omega, rfl, rfl⟩
    · have e : i = cs.length := by omega
      subst e
      rw [List.take_length]
      have q := String_1 X (P ++ encCs cs)
      (refine LWP.seq <| LWP.region (by kernel_rfl) <| klt rfl rfl (decide_eq_false (by omega)) <| RunK.nil <| LWP.seq <| LWP.condF rfl ?_; refine LWP.exit <| LWP.seq <| LWP.region (by kernel_rfl) <| kmv rfl <| K.callM [(1000000, 14), (1000001, 601), (1000002, 500)] (w1 14 601 500 (P ++ encCs cs)) (q) rfl rfl (by exact (And.intro ⟨_, rfl, rfl⟩ (And.intro ⟨_, rfl, rfl⟩ (And.intro ⟨_, rfl, (Box.ren_bytes _ _ _ _)⟩ trivial)))) (by exact (all_cons_true (all_cons_true rfl (all_cons_true rfl rfl)) (all_cons_true (all_cons_true rfl rfl) (all_cons_true bytes_inUse rfl)))) rfl rfl rfl rfl (by exact (.box rfl rfl (.box rfl rfl (.box rfl (Box.ren_bytes _ _ _ _) .nil)))) .plain <| kas rfl <| kas rfl <| RunK.nil <| LWP.ret ?_)
      exact ⟨[_, _], ⟨rfl, rfl, trivial⟩, rfl⟩
  · rw [if_neg hz]
    have hne : (chkE s != 0) = true := by rw [bne_iff_ne]; exact hz
    generalize chkE s = ce at *
    refine PSpec.intro Tryz.func9 rfl (by kernel_rfl) rfl rfl ?_
    intro C
    (refine LWP.seq <| LWP.region (by kernel_rfl) <| K.box rfl rfl rfl .plain <| kas rfl <| kas rfl <| RunK.nil <| LWP.seq <| LWP.seq <| LWP.region (by kernel_rfl) <| K.loadAll rfl rfl rfl .plain ?_; refine kca rfl rfl hc <| kas rfl <| RunK.nil <| LWP.seq <| LWP.region (by kernel_rfl) <| kmv rfl <| kne rfl rfl hne <| RunK.nil <| LWP.condT rfl ?_; refine LWP.seq <| LWP.region (by kernel_rfl) <| kmv rfl <| kas rfl <| kas rfl <| RunK.nil <| LWP.ret ?_)
    exact ⟨[_, _], ⟨rfl, rfl, trivial⟩, rfl⟩
end Go.Proofs.YtnomcmklhbjfjaaGreatDoor
end
section
namespace Go.Proofs.YtnomcmklhbjfjaaGreatDoor
open Go Go.Lg Go.Lg.Fld
set_option maxRecDepth 100000
variable (X : Nat → Option Obj)
set_option maxHeartbeats 3200000 in
theorem great8_spec (ver : Int) (ad : Option Addr) (cap : Nat) (cs : List Cp) (hin : CompsIn X ad cs) (r : Bool) (hr : greatB8 cs = r) : PSpec Tryz.prog X 8 [Sx ver ad cs.length cap] (Lb r) := by
  subst hr
  refine PSpec.intro Tryz.func8 rfl (by kernel_rfl) rfl rfl ?_
  intro C
  by_cases hn : 30 < cs.length
  · rw [show greatB8 cs = true by unfold greatB8; rw [decide_eq_true hn]; rfl]
    (refine LWP.seq <| LWP.region (by kernel_rfl) <| K.box rfl rfl rfl .plain <| kas rfl <| RunK.nil <| LWP.seq <| LWP.seq <| LWP.region (by kernel_rfl) <| kfa rfl rfl ?_; refine kl1 rfl rfl rfl <| K.lenX rfl SliceT.h rfl .plain ?_; refine K.gtr rfl rfl (decide_eq_true (by omega)) .plain <| RunK.nil <| LWP.condT rfl ?_; refine LWP.seq <| LWP.region (by kernel_rfl) <| kas rfl <| RunK.nil <| LWP.ret ?_)
    exact ⟨[_], ⟨rfl, trivial⟩, rfl⟩
  have yes : ∀ (i : Nat) (c : Cp), cs[i]? = some c → bigC8 c = true → greatB8 cs = true := fun i c hc h => by
    unfold greatB8; rw [any_at hc h, Bool.or_true]
  (refine LWP.seq <| LWP.region (by kernel_rfl) <| K.box rfl rfl rfl .plain <| kas rfl <| RunK.nil <| LWP.seq <| LWP.seq <| LWP.region (by kernel_rfl) <| kfa rfl rfl ?_; refine kl1 rfl rfl rfl <| K.lenX rfl SliceT.h rfl .plain ?_; refine K.gtr rfl rfl (decide_eq_false (by omega)) .plain <| RunK.nil <| LWP.condF rfl ?_; refine LWP.skip ?_; refine LWP.seq <| LWP.seq <| LWP.region (by kernel_rfl) <| kas rfl <| RunK.nil <| LWP.block ?_)
  refine LWP.loop (fun m σ => ∃ i : Nat, i ≤ cs.length ∧ m = cs.length - i ∧ (∀ (j : Nat) (y : Cp), j < i → cs[j]? = some y → bigC8 y = false) ∧ σ = ⟨[(1, Lp 1), (3, Ln .i64 (i : Nat))], [sxB 1 ver ad cs.length cap], X⟩) cs.length
    ⟨_, Le.of (by exact ⟨rfl, rfl, trivial⟩) (by exact ⟨rfl, trivial⟩) (by exact rfl) (by exact rfl) (by repeat' (first | refine all_cons_true ?_ ?_ | rfl | exact bytes_inUse | exact vals_inUse | exact mid_inUse rfl)), 0, by omega, by omega, fun j y hj => absurd hj (by omega), rfl⟩ ?_
  rintro m σ ⟨i, hi, rfl, hpre, rfl⟩
  by_cases hlt : i < cs.length
  · obtain ⟨c, hc⟩ : ∃ c, cs[i]? = some c := ⟨_, List.getElem?_eq_getElem hlt⟩
    obtain ⟨blk, off, arr, el, fr, fad, fcap, rfl, hX, hsz, hcs, g1, g2, g3, hF⟩ := hin.get hc
    have hio : off + Int.toNat (i : Int) * 3 = off + i * 3 := by simp
    have hlen : (⟨c.nm.toArray⟩ : ByteArray).size = c.nm.length := rfl
    by_cases h1 : 12 < c.fs.length
    · rw [yes i c hc (by unfold bigC8; rw [decide_eq_true h1]; rfl)]
      (refine LWP.seq <| LWP.seq <| LWP.region (by kernel_rfl) <| kmv rfl <| kfa rfl rfl ?_; refine kl1 rfl rfl rfl <| K.lenX rfl SliceT.h rfl .plain ?_; refine klt rfl rfl (decide_eq_true (by omega)) <| RunK.nil <| LWP.condT rfl ?_; refine LWP.skip ?_; refine LWP.seq <| LWP.block <| LWP.seq <| LWP.seq <| LWP.region (by kernel_rfl) <| kfa rfl rfl ?_; refine kl1 rfl rfl rfl <| kmv rfl <| K.indexX rfl rfl SliceT.h (by omega) hio .plain <| K.fieldAddrX rfl rfl .plain ?_; refine K.loadX rfl hX rfl g3 .plain <| K.lenX rfl SliceT.h rfl .plain ?_; refine K.gtr rfl rfl (decide_eq_true (by omega)) .plain <| kmv rfl <| RunK.passed rfl rfl rfl <| RunK.passed rfl rfl rfl <| RunK.passed rfl rfl rfl <| RunK.passed rfl rfl rfl <| RunK.passed rfl rfl rfl <| RunK.passed rfl rfl rfl <| RunK.passed rfl rfl rfl <| RunK.passed rfl rfl rfl <| kpt rfl rfl <| RunK.nil <| LWP.condT rfl ?_; refine LWP.seq <| LWP.region (by kernel_rfl) <| kas rfl <| RunK.nil <| LWP.ret ?_)
      exact ⟨[_], ⟨rfl, trivial⟩, rfl⟩
    by_cases h2 : 300 < c.nm.length
    · rw [yes i c hc (by unfold bigC8; rw [decide_eq_true h2]; simp)]
      (refine LWP.seq <| LWP.seq <| LWP.region (by kernel_rfl) <| kmv rfl <| kfa rfl rfl ?_; refine kl1 rfl rfl rfl <| K.lenX rfl SliceT.h rfl .plain ?_; refine klt rfl rfl (decide_eq_true (by omega)) <| RunK.nil <| LWP.condT rfl ?_; refine LWP.skip ?_; refine LWP.seq <| LWP.block <| LWP.seq <| LWP.seq <| LWP.region (by kernel_rfl) <| kfa rfl rfl ?_; refine kl1 rfl rfl rfl <| kmv rfl <| K.indexX rfl rfl SliceT.h (by omega) hio .plain <| K.fieldAddrX rfl rfl .plain ?_; refine K.loadX rfl hX rfl g3 .plain <| K.lenX rfl SliceT.h rfl .plain ?_; refine K.gtr rfl rfl (decide_eq_false (by omega)) .plain <| kmv rfl <| K.fieldAddr rfl rfl (.taken rfl rfl) ?_; refine K.loadOne rfl rfl rfl (.taken rfl rfl) ?_; refine gmv rfl rfl rfl <| K.indexX rfl rfl SliceT.h (by omega) hio (.taken rfl rfl) ?_; refine K.fieldAddrX rfl rfl (.taken rfl rfl) ?_; refine K.loadX rfl hX rfl g2 (.taken rfl rfl) ?_; refine K.lenStr rfl (.taken rfl rfl) ?_; refine K.gtr rfl rfl (decide_eq_true (by rw [hlen]; omega)) (.taken rfl rfl) ?_; refine kpf rfl rfl <| RunK.nil <| LWP.condT rfl ?_; refine LWP.seq <| LWP.region (by kernel_rfl) <| kas rfl <| RunK.nil <| LWP.ret ?_)
      exact ⟨[_], ⟨rfl, trivial⟩, rfl⟩
    (refine LWP.seq <| LWP.seq <| LWP.region (by kernel_rfl) <| kmv rfl <| kfa rfl rfl ?_; refine kl1 rfl rfl rfl <| K.lenX rfl SliceT.h rfl .plain ?_; refine klt rfl rfl (decide_eq_true (by omega)) <| RunK.nil <| LWP.condT rfl ?_; refine LWP.skip ?_; refine LWP.seq <| LWP.block <| LWP.seq <| LWP.seq <| LWP.region (by kernel_rfl) <| kfa rfl rfl ?_; refine kl1 rfl rfl rfl <| kmv rfl <| K.indexX rfl rfl SliceT.h (by omega) hio .plain <| K.fieldAddrX rfl rfl .plain ?_; refine K.loadX rfl hX rfl g3 .plain <| K.lenX rfl SliceT.h rfl .plain ?_; refine K.gtr rfl rfl (decide_eq_false (by omega)) .plain <| kmv rfl <| K.fieldAddr rfl rfl (.taken rfl rfl) ?_; refine K.loadOne rfl rfl rfl (.taken rfl rfl) ?_; refine gmv rfl rfl rfl <| K.indexX rfl rfl SliceT.h (by omega) hio (.taken rfl rfl) ?_; refine K.fieldAddrX rfl rfl (.taken rfl rfl) ?_; refine K.loadX rfl hX rfl g2 (.taken rfl rfl) ?_; refine K.lenStr rfl (.taken rfl rfl) ?_; refine K.gtr rfl rfl (decide_eq_false (by rw [hlen]; omega)) (.taken rfl rfl) ?_; refine kpf rfl rfl <| RunK.nil <| LWP.condF rfl ?_; refine LWP.skip ?_; refine LWP.seq <| LWP.region (by kernel_rfl) <| kas rfl <| RunK.nil <| LWP.block ?_)
    refine LWP.loop (fun m σ => ∃ k : Nat, k ≤ c.fs.length ∧ m = c.fs.length - k ∧ (∀ (j : Nat) (y : Fl), j < k → c.fs[j]? = some y → decide (300 < y.nm.length) = false) ∧ σ = ⟨[(1, Lp 1), (3, Ln .i64 (i : Nat)), (4, Ln .i64 (k : Nat))], [sxB 1 ver (some ⟨blk, off, none⟩) cs.length cap], X⟩) c.fs.length
      ⟨_, Le.of (by exact ⟨rfl, rfl, rfl, trivial⟩) (by exact ⟨rfl, trivial⟩) (by exact rfl) (by exact rfl) (by repeat' (first | refine all_cons_true ?_ ?_ | rfl | exact bytes_inUse | exact vals_inUse | exact mid_inUse rfl)), 0, by omega, by omega, fun j y hj => absurd hj (by omega), rfl⟩ ?_
    rintro m σ ⟨k, hk, rfl, hpre2, rfl⟩
    by_cases hkl : k < c.fs.length
    · obtain ⟨f, hf⟩ : ∃ f, c.fs[k]? = some f := ⟨_, List.getElem?_eq_getElem hkl⟩
      obtain ⟨fb, fo, farr, fel, ffr, rfl, hFX, hFc⟩ := hF.nm hf
      have hio3 : fo + Int.toNat (k : Int) * 3 = fo + k * 3 := by simp
      have hlen2 : (⟨f.nm.toArray⟩ : ByteArray).size = f.nm.length := rfl
      by_cases h3 : 300 < f.nm.length
      · rw [yes i c hc (by unfold bigC8 bigF8; rw [any_at hf (by exact decide_eq_true h3), Bool.or_true])]
        (refine LWP.seq <| LWP.seq <| LWP.region (by kernel_rfl) <| kmv rfl <| kfa rfl rfl ?_; refine kl1 rfl rfl rfl <| kmv rfl <| K.indexX rfl rfl SliceT.h (by omega) hio .plain <| K.fieldAddrX rfl rfl .plain ?_; refine K.loadX rfl hX rfl g3 .plain <| K.lenX rfl SliceT.h rfl .plain ?_; refine klt rfl rfl (decide_eq_true (by omega)) <| RunK.nil <| LWP.condT rfl ?_; refine LWP.skip ?_; refine LWP.seq <| LWP.block <| LWP.seq <| LWP.region (by kernel_rfl) <| kfa rfl rfl ?_; refine kl1 rfl rfl rfl <| kmv rfl <| K.indexX rfl rfl SliceT.h (by omega) hio .plain <| K.fieldAddrX rfl rfl .plain ?_; refine K.loadX rfl hX rfl g3 .plain <| kmv rfl <| K.indexX rfl rfl SliceT.h (by omega) hio3 .plain <| K.fieldAddrX rfl rfl .plain ?_; refine K.loadX rfl hFX rfl hFc .plain <| kln rfl <| K.gtr rfl rfl (decide_eq_true (by rw [hlen2]; omega)) .plain <| RunK.nil <| LWP.condT rfl ?_; refine LWP.seq <| LWP.region (by kernel_rfl) <| kas rfl <| RunK.nil <| LWP.ret ?_)
        exact ⟨[_], ⟨rfl, trivial⟩, rfl⟩
      · (refine LWP.seq <| LWP.seq <| LWP.region (by kernel_rfl) <| kmv rfl <| kfa rfl rfl ?_; refine kl1 rfl rfl rfl <| kmv rfl <| K.indexX rfl rfl SliceT.h (by omega) hio .plain <| K.fieldAddrX rfl rfl .plain ?_; refine K.loadX rfl hX rfl g3 .plain <| K.lenX rfl SliceT.h rfl .plain ?_; refine klt rfl rfl (decide_eq_true (by omega)) <| RunK.nil <| LWP.condT rfl ?_; refine LWP.skip ?_; refine LWP.seq <| LWP.block <| LWP.seq <| LWP.region (by kernel_rfl) <| kfa rfl rfl ?_; refine kl1 rfl rfl rfl <| kmv rfl <| K.indexX rfl rfl SliceT.h (by omega) hio .plain <| K.fieldAddrX rfl rfl .plain ?_; refine K.loadX rfl hX rfl g3 .plain <| kmv rfl <| K.indexX rfl rfl SliceT.h (by omega) hio3 .plain <| K.fieldAddrX rfl rfl .plain ?_; refine K.loadX rfl hFX rfl hFc .plain <| kln rfl <| K.gtr rfl rfl (decide_eq_false (by rw [hlen2]; omega)) .plain <| RunK.nil <| LWP.condF rfl ?_; refine LWP.skip ?_; refine LWP.region (by kernel_rfl) <| kmv rfl <| kad rfl rfl (wrap_i64 (by omega)) <| kas rfl <| RunK.nil ?_)
        exact ⟨_, _, by omega, Le.of (by exact ⟨rfl, rfl, rfl, trivial⟩) (by exact ⟨rfl, trivial⟩) (by exact rfl) (by exact rfl) (by repeat' (first | refine all_cons_true ?_ ?_ | rfl | exact bytes_inUse | exact vals_inUse | exact mid_inUse rfl)), k + 1, by omega, rfl, (fun j y hj hy => by
          by_cases e : j = k
          · subst e; rw [hf] at hy; cases hy; exact decide_eq_false h3
          · exact hpre2 j y (by omega) hy), rfl⟩
    · (refine LWP.seq <| LWP.seq <| LWP.region (by kernel_rfl) <| kmv rfl <| kfa rfl rfl ?_; refine kl1 rfl rfl rfl <| kmv rfl <| K.indexX rfl rfl SliceT.h (by omega) hio .plain <| K.fieldAddrX rfl rfl .plain ?_; refine K.loadX rfl hX rfl g3 .plain <| K.lenX rfl SliceT.h rfl .plain ?_; refine klt rfl rfl (decide_eq_false (by omega)) <| RunK.nil <| LWP.condF rfl ?_; refine LWP.exit <| LWP.region (by kernel_rfl) <| kmv rfl <| kad rfl rfl (wrap_i64 (by omega)) <| kas rfl <| RunK.nil ?_)
      exact ⟨_, _, by omega, Le.of (by exact ⟨rfl, rfl, trivial⟩) (by exact ⟨rfl, trivial⟩) (by exact rfl) (by exact rfl) (by repeat' (first | refine all_cons_true ?_ ?_ | rfl | exact bytes_inUse | exact vals_inUse | exact mid_inUse rfl)), i + 1, by omega, rfl, (fun j y hj hy => by
        by_cases e : j = i
        · subst e
          rw [hc] at hy
          cases hy
          unfold bigC8 bigF8
          rw [decide_eq_false h1, decide_eq_false h2, any_no fun j y hy => hpre2 j y (by have := (List.getElem?_eq_some_iff.1 hy).1; omega) hy]; rfl
        · exact hpre j y (by omega) hy), rfl⟩
  · rw [show greatB8 cs = false by unfold greatB8; rw [decide_eq_false hn, any_no fun j y hy => hpre j y (by have := (List.getElem?_eq_some_iff.1 hy).1; omega) hy]; rfl]
    (refine LWP.seq <| LWP.seq <| LWP.region (by kernel_rfl) <| kmv rfl <| kfa rfl rfl ?_; refine kl1 rfl rfl rfl <| K.lenX rfl SliceT.h rfl .plain ?_; refine klt rfl rfl (decide_eq_false (by omega)) <| RunK.nil <| LWP.condF rfl ?_; refine LWP.exit <| LWP.seq <| LWP.region (by kernel_rfl) <| kas rfl <| RunK.nil <| LWP.ret ?_)
    exact ⟨[_], ⟨rfl, trivial⟩, rfl⟩
end Go.Proofs.YtnomcmklhbjfjaaGreatDoor
end
section
namespace Go.Proofs.YtnomcmklhbjfjaaGreatDoor
open Go Go.Lg Go.Lg.Fld
set_option maxRecDepth 100000
abbrev Ext (X Y : Nat → Option Obj) : Prop := ∀ b o, X b = some o → Y b = some o
theorem OneIn.more {X Y : Nat → Option Obj} (hXY : Ext X Y) {ad : Option Addr} {vs : List Value} (h : OneIn X ad vs) : OneIn Y ad vs := fun i v hi => by
  obtain ⟨blk, off, arr, el, fr, h1, h2, h3⟩ := h i v hi
  exact ⟨blk, off, arr, el, fr, h1, hXY _ _ h2, h3⟩
variable (X : Nat → Option Obj)
end Go.Proofs.YtnomcmklhbjfjaaGreatDoor
end
section
namespace Go.Proofs.YtnomcmklhbjfjaaGreatDoor
open Go Go.Lg Go.Lg.Fld
set_option maxRecDepth 100000
theorem unpErr_facts {fs : List Fl} {s : List UInt8} (h : unpErr fs s = 0) : layErr fs = 0 ∧ s.length = rowSize fs ∧ readOk (elemsAt 0 fs) s = true ∧ packB fs ((unpZ fs s).map qn) = s := by
  unfold unpErr at h
  split at h
  · rename_i h0
    split at h
    · rename_i h1
      unfold unpOk at h1
      simp only [Bool.and_eq_true, decide_eq_true_eq, beq_iff_eq] at h1
      exact ⟨h0, h1.1, h1.2.1, h1.2.2⟩
    · cases h
  · contradiction
theorem unp_R {fs : List Fl} {s : List UInt8} (h : unpErr fs s = 0) : ∀ z ∈ unpZ fs s, R127 z := by
  obtain ⟨hl, hn, _, _⟩ := unpErr_facts h
  obtain ⟨_, hall, _⟩ := layErr_facts hl
  intro z hz
  obtain ⟨e, he, rfl⟩ := List.mem_map.1 hz
  exact (read_R (within_row hall) hn he).2
theorem unpZ_len {fs : List Fl} {s : List UInt8} (h : unpErr fs s = 0) : (unpZ fs s).length ≤ 64 := by
  obtain ⟨hl, _, _, _⟩ := unpErr_facts h
  obtain ⟨h8, hall, _⟩ := layErr_facts hl
  have := elems_len fs 0 hall
  simp only [unpZ, List.length_map]; omega
variable (X : Nat → Option Obj)
end Go.Proofs.YtnomcmklhbjfjaaGreatDoor
end
section
namespace Go.Proofs.YtnomcmklhbjfjaaGreatDoor
open Go Go.Lg Go.Lg.Fld
set_option maxRecDepth 100000
theorem packE_read {T : Nat} : ∀ {es : List (Int × Nat)} {ns : List (Bool × Int)} {b : List UInt8} {i : Nat} {e : Int × Nat} {v : Bool × Int}, Within es T → ApartE es → b.length = T → es[i]? = some e → ns[i]? = some v →
    ((packE es ns b).drop e.2).take (kW e.1) = numB e.1 v
  | [], _, _, i, e, v, _, _, _, he, _ => by simp at he
  | _ :: _, [], _, i, e, v, _, _, _, _, hv => by simp at hv
  | e0 :: t, v0 :: u, b, 0, e, v, hw, ha, hb, he, hv => by
    simp only [List.getElem?_cons_zero, Option.some.injEq] at he hv
    subst he hv
    have h1 := (hw e0 (by simp)).2
    have hl : (setAt b e0.2 (numB e0.1 v0)).length = T := by rw [setAt_len (by rw [numB_len]; omega)]; exact hb
    have h2 : ∀ e ∈ t, e0.2 + kW e0.1 ≤ e.2 := (List.pairwise_cons.1 ha).1
    have h3 := packE_take (ns := u) (q := e0.2 + kW e0.1) (fun x hx => hw x (by simp [hx])) h2 hl
    show ((packE t u (setAt b e0.2 (numB e0.1 v0))).drop e0.2).take (kW e0.1) = numB e0.1 v0
    rw [drop_take_eq h3]
    have := setAt_read (b := b) (s := numB e0.1 v0) (p := e0.2) (by rw [numB_len]; omega)
    rw [numB_len] at this
    exact this
  | e0 :: t, v0 :: u, b, i + 1, e, v, hw, ha, hb, he, hv => by
    have h1 := (hw e0 (by simp)).2
    have hl : (setAt b e0.2 (numB e0.1 v0)).length = T := by rw [setAt_len (by rw [numB_len]; omega)]; exact hb
    exact packE_read (es := t) (ns := u) (fun x hx => hw x (by simp [hx])) (List.pairwise_cons.1 ha).2 hl (by simpa using he) (by simpa using hv)
theorem qn_zv {b : Bool} {N : Int} (hN : In2 N) (h : formB b N = true) : qn (zv b N) = (b, N) := by
  obtain ⟨_, h1, h2⟩ := zv_in hN h
  unfold qn
  rw [h1, h2]
theorem packB_len {fs : List Fl} (h : fs.all Fl.ok = true) (ns : List (Bool × Int)) : (packB fs ns).length = rowSize fs := packE_len (within_row h) (by rw [List.length_replicate])
theorem pack_read {fs : List Fl} {ns : List (Bool × Int)} (hn : ∀ n ∈ ns, In2 n.2) (h : fitErr fs ns = 0) {i : Nat} {e : Int × Nat} {b : Bool} {N : Int} (he : (elemsAt 0 fs)[i]? = some e) (hv : ns[i]? = some (b, N)) :
    rdE (packB fs ns) e = zv b N := by
  obtain ⟨hl, hlen, hfit⟩ := fitErr_facts h
  obtain ⟨_, hall, _⟩ := layErr_facts hl
  obtain ⟨g1, g2, g3⟩ := fitAll_at hfit he hv
  have hr := packE_read (b := List.replicate (rowSize fs) 0) (within_row hall) (elems_apart fs 0 hall) (by rw [List.length_replicate]) he hv
  unfold rdE packB
  rw [hr]
  unfold numB
  rw [le_leB _ _ (wd_lt g2 _), nb_wd g2 g3]
theorem pack_back {fs : List Fl} {ns : List (Bool × Int)} (hn : ∀ n ∈ ns, In2 n.2) (h : fitErr fs ns = 0) : unpErr fs (packB fs ns) = 0 ∧ (unpZ fs (packB fs ns)).map qn = ns := by
  obtain ⟨hl, hlen, hfit⟩ := fitErr_facts h
  obtain ⟨_, hall, _⟩ := layErr_facts hl
  have hback : (unpZ fs (packB fs ns)).map qn = ns := by
    apply List.ext_getElem?
    intro i
    unfold unpZ
    rw [List.getElem?_map, List.getElem?_map]
    cases he : (elemsAt 0 fs)[i]? with
    | none =>
      have h1 := List.getElem?_eq_none_iff.1 he
      rw [List.getElem?_eq_none (by omega)]
      rfl
    | some e =>
      have h1 := (List.getElem?_eq_some_iff.1 he).1
      obtain ⟨⟨b, N⟩, hv⟩ : ∃ v, ns[i]? = some v := ⟨_, List.getElem?_eq_getElem (by omega)⟩
      obtain ⟨g1, g2, g3⟩ := fitAll_at hfit he hv
      rw [hv]
      show some (qn (rdE (packB fs ns) e)) = some (b, N)
      rw [pack_read hn h he hv, qn_zv (hn _ (List.mem_of_getElem? hv)) g1]
  refine ⟨?_, hback⟩
  unfold unpErr
  rw [if_pos hl, if_pos]
  unfold unpOk
  rw [hback]
  simp only [Bool.and_eq_true, decide_eq_true_eq, beq_self_eq_true, and_true]
  refine ⟨packB_len hall ns, ?_⟩
  unfold readOk
  refine List.all_eq_true.2 fun e he => ?_
  obtain ⟨i, hi⟩ := List.getElem?_of_mem he
  have h1 := (List.getElem?_eq_some_iff.1 hi).1
  obtain ⟨⟨b, N⟩, hv⟩ : ∃ v, ns[i]? = some v := ⟨_, List.getElem?_eq_getElem (by omega)⟩
  obtain ⟨g1, g2, g3⟩ := fitAll_at hfit hi hv
  rw [pack_read hn h hi hv]
  exact g3
theorem unp_fit {fs : List Fl} {s : List UInt8} (h : unpErr fs s = 0) : fitErr fs ((unpZ fs s).map qn) = 0 := by
  obtain ⟨hl, hn, hok, hp⟩ := unpErr_facts h
  obtain ⟨_, hall, _⟩ := layErr_facts hl
  unfold fitErr
  rw [if_pos hl, if_pos (by simp [unpZ]), if_pos]
  exact fit_read (within_row hall) hn hok
variable (X : Nat → Option Obj)
end Go.Proofs.YtnomcmklhbjfjaaGreatDoor
end
section
namespace Go.Proofs.YtnomcmklhbjfjaaGreatDoor
open Go Go.Lg Go.Lg.Fld
set_option maxRecDepth 100000
def fsAt (cs : List Cp) (id : Int) : List Fl := match cs.find? (fun c => c.id == id) with | some c => c.fs | none => []
def encP (cs : List Cp) (p : Pt) : List UInt8 := by8 p.comp :: packB (fsAt cs p.comp) p.val
def encPs (cs : List Cp) : List Pt → List UInt8
  | [] => []
  | p :: t => encP cs p ++ encPs cs t
theorem encPs_app (cs : List Cp) : ∀ (a b : List Pt), encPs cs (a ++ b) = encPs cs a ++ encPs cs b
  | [], _ => rfl
  | p :: t, b => by simp only [List.cons_append, encPs, encPs_app cs t b, List.append_assoc]
def risesP (last : Int) : List Pt → Prop
  | [] => True
  | p :: t => last < p.comp ∧ risesP p.comp t
def decPs (cs : List Cp) : Nat → Int → List UInt8 → Option (List Pt)
  | 0, _, r => if r = [] then some [] else none
  | _ + 1, _, [] => none
  | n + 1, last, b :: r => match cs.find? (fun c => c.id == (b.toNat : Int)) with
    | none => none
    | some c => if last < (b.toNat : Int) ∧ rowSize c.fs ≤ r.length ∧ unpErr c.fs (r.take (rowSize c.fs)) = 0 then
        (decPs cs n (b.toNat : Int) (r.drop (rowSize c.fs))).map (⟨(b.toNat : Int), (unpZ c.fs (r.take (rowSize c.fs))).map qn⟩ :: ·)
      else none
def decP (cs : List Cp) : List UInt8 → Option (List Pt)
  | [] => none
  | n :: r => decPs cs n.toNat (-1) r
def okP (cs : List Cp) (p : Pt) : Prop := partE cs p = 0 ∧ (0 ≤ p.comp ∧ p.comp < 256) ∧ ∀ n ∈ p.val, In2 n.2
theorem partE_find {cs : List Cp} {p : Pt} (h : partE cs p = 0) : ∃ c, cs.find? (fun c => c.id == p.comp) = some c ∧ fitErr c.fs p.val = 0 := by
  unfold partE at h
  cases hf : cs.find? (fun c => c.id == p.comp) with
  | none => rw [hf] at h; cases h
  | some c => rw [hf] at h; exact ⟨c, rfl, h⟩
theorem dec_encPs {cs : List Cp} (t : List UInt8) : ∀ {ps : List Pt} {last : Int}, risesP last ps → (∀ p ∈ ps, okP cs p) → decPs cs ps.length last (encPs cs ps ++ t) = if t = [] then some ps else none
  | [], _, _, _ => by simp only [encPs, List.nil_append, List.length_nil, decPs]
  | p :: ps, last, hr, ho => by
    obtain ⟨h1, h2, h3⟩ := ho p List.mem_cons_self
    obtain ⟨c, hc, hf⟩ := partE_find h1
    have hb : ((by8 p.comp).toNat : Int) = p.comp := by8_nat h2
    have hfs : fsAt cs p.comp = c.fs := by unfold fsAt; rw [hc]
    obtain ⟨hl, _, _⟩ := fitErr_facts hf
    obtain ⟨_, hall, _⟩ := layErr_facts hl
    have hlen : (packB c.fs p.val).length = rowSize c.fs := packB_len hall p.val
    obtain ⟨k1, k2⟩ := pack_back h3 hf
    have ih := dec_encPs (cs := cs) t (ps := ps) (last := p.comp) hr.2 (fun q hq => ho q (List.mem_cons_of_mem _ hq))
    simp only [encPs, encP, List.length_cons, List.cons_append, List.append_assoc, decPs, hb, hc, hfs]
    have e1 : (packB c.fs p.val ++ (encPs cs ps ++ t)).take (rowSize c.fs) = packB c.fs p.val := by rw [← hlen, List.take_left]
    have e2 : (packB c.fs p.val ++ (encPs cs ps ++ t)).drop (rowSize c.fs) = encPs cs ps ++ t := by rw [← hlen, List.drop_left]
    rw [e1, e2, k1, k2, ih, if_pos ⟨hr.1, by rw [List.length_append]; omega, rfl⟩]
    by_cases ht : t = []
    · rw [if_pos ht, if_pos ht]; rfl
    · rw [if_neg ht, if_neg ht]; rfl
theorem qn_in2 {fs : List Fl} {s : List UInt8} (h : unpErr fs s = 0) : ∀ n ∈ (unpZ fs s).map qn, In2 n.2 := nums_in2 (unp_R h)
theorem enc_decPs {cs : List Cp} : ∀ {n : Nat} {last : Int} {r : List UInt8} {ps : List Pt}, decPs cs n last r = some ps → encPs cs ps = r ∧ ps.length = n ∧ risesP last ps ∧ ∀ p ∈ ps, okP cs p
  | 0, last, r, ps, h => by
    simp only [decPs] at h
    split at h
    · rename_i hr
      cases h
      exact ⟨hr.symm, rfl, trivial, fun p hp => by cases hp⟩
    · cases h
  | n + 1, last, [], ps, h => by simp only [decPs] at h; cases h
  | n + 1, last, b :: r, ps, h => by
    simp only [decPs] at h
    split at h
    · cases h
    · rename_i c hc
      split at h
      · rename_i hk
        obtain ⟨k1, k2, k3⟩ := hk
        rw [Option.map_eq_some_iff] at h
        obtain ⟨qs, hq, rfl⟩ := h
        obtain ⟨i1, i2, i3, i4⟩ := enc_decPs hq
        have hfs : fsAt cs (b.toNat : Int) = c.fs := by unfold fsAt; rw [hc]
        obtain ⟨_, _, _, u4⟩ := unpErr_facts k3
        have hfit := unp_fit k3
        refine ⟨?_, by rw [List.length_cons, i2], ⟨k1, i3⟩, fun p hp => ?_⟩
        · simp only [encPs, encP, hfs, by8_of, u4, i1, List.cons_append, List.take_append_drop]
        · rcases List.mem_cons.1 hp with rfl | hp
          · refine ⟨?_, ⟨by show (0 : Int) ≤ (b.toNat : Int); omega, by have := b.toNat_lt; show (b.toNat : Int) < 256; omega⟩, qn_in2 k3⟩
            unfold partE
            rw [hc]
            exact hfit
          · exact i4 p hp
      · cases h
def encPt (cs : List Cp) (ps : List Pt) : List UInt8 := by8 ps.length :: encPs cs ps
theorem dec_parts {cs : List Cp} {ps : List Pt} (hn : ps.length < 256) (hr : risesP (-1) ps) (ho : ∀ p ∈ ps, okP cs p) : decP cs (encPt cs ps) = some ps := by
  have h := dec_encPs (cs := cs) [] hr ho
  have e : (by8 (ps.length : Nat)).toNat = ps.length := by have := by8_nat (n := (ps.length : Nat)) ⟨by omega, by omega⟩; omega
  rw [List.append_nil, if_pos rfl] at h
  simp only [encPt, decP, e, h]
theorem enc_parts {cs : List Cp} {b : List UInt8} {ps : List Pt} (h : decP cs b = some ps) : encPt cs ps = b ∧ ps.length < 256 ∧ risesP (-1) ps ∧ ∀ p ∈ ps, okP cs p := by
  cases b with
  | nil => cases h
  | cons n r =>
    obtain ⟨h1, h2, h3, h4⟩ := enc_decPs (h : decPs cs n.toNat (-1) r = some ps)
    refine ⟨?_, by rw [h2]; exact n.toNat_lt, h3, h4⟩
    unfold encPt
    rw [h1, h2, by8_of]
end Go.Proofs.YtnomcmklhbjfjaaGreatDoor
end
section
namespace Go.Proofs.YtnomcmklhbjfjaaGreatDoor
open Go Go.Lg Go.Lg.Fld
set_option maxRecDepth 100000
variable (X : Nat → Option Obj)
set_option maxHeartbeats 6400000 in
theorem psame_spec (ad bd : Option Addr) (ca cb : Nat) (ps : List Pt) (ha : PartsIn X ad ps) (hb : PartsIn X bd ps) (hpb : ps.length < 4611686018427387904) (hnb : ∀ p ∈ ps, p.val.length < 4611686018427387904) :
    PSpec Tryz.prog X 19 [Lx ad ps.length ca, Lx bd ps.length cb] (Lb true) := by
  refine PSpec.intro Tryz.func19 rfl (by kernel_rfl) rfl rfl ?_
  intro C
  have hll : ((ps.length : Int) != (ps.length : Int)) = false := by simp
  (refine LWP.seq <| LWP.region (by kernel_rfl) <| kas rfl <| RunK.nil <| LWP.seq <| LWP.seq <| LWP.region (by kernel_rfl) <| kmv rfl <| K.lenX rfl SliceT.h rfl .plain ?_; refine kmv rfl <| K.lenX rfl SliceT.h rfl .plain ?_; refine kne rfl rfl hll <| RunK.nil <| LWP.condF rfl ?_; refine LWP.skip ?_; refine LWP.seq <| LWP.seq <| LWP.region (by kernel_rfl) <| kas rfl <| RunK.nil <| LWP.block ?_)
  refine LWP.loop (fun m σ => ∃ i : Nat, i ≤ ps.length ∧ m = ps.length - i ∧ σ = ⟨[(0, Lx ad ps.length ca), (1, Lx bd ps.length cb), (5, Ln .i64 (i : Nat))], [], X⟩) ps.length
    ⟨_, Le.of (by exact ⟨rfl, rfl, rfl, trivial⟩) (by exact trivial) (by exact rfl) (by exact rfl) (by exact rfl), 0, by omega, rfl, rfl⟩ ?_
  rintro m σ ⟨i, hi, rfl, rfl⟩
  by_cases hlt : i < ps.length
  · obtain ⟨p, hp⟩ : ∃ p, ps[i]? = some p := ⟨_, List.getElem?_eq_getElem hlt⟩
    obtain ⟨blk, off, arr, el, fr, vad, vcap, rfl, hX, hsz, _, g1, g2, hN⟩ := ha.get hp
    obtain ⟨blk', off', arr', el', fr', vad', vcap', rfl, hX', hsz', _, g1', g2', hN'⟩ := hb.get hp
    have hio : off + Int.toNat (i : Int) * 2 = off + i * 2 := by simp
    have hio' : off' + Int.toNat (i : Int) * 2 = off' + i * 2 := by simp
    have hcc : (p.comp != p.comp) = false := by simp
    have hvv : ((p.val.length : Int) != (p.val.length : Int)) = false := by simp
    have hnp := hnb p (List.mem_of_getElem? hp)
    (refine LWP.seq <| LWP.seq <| LWP.region (by kernel_rfl) <| kmv rfl <| kmv rfl <| K.lenX rfl SliceT.h rfl .plain ?_; refine klt rfl rfl (decide_eq_true (by omega)) <| RunK.nil <| LWP.condT rfl ?_; refine LWP.skip ?_; refine LWP.seq <| LWP.block <| LWP.seq <| LWP.seq <| LWP.draws mixed (by kernel_rfl) <| kmv rfl <| kmv rfl <| K.indexX rfl rfl SliceT.h (by omega) hio .plain <| K.fieldAddrX rfl rfl .plain ?_; refine K.loadX rfl hX rfl g1 .plain <| kmv rfl <| kmv rfl <| K.indexX rfl rfl SliceT.h (by omega) hio' .plain <| K.fieldAddrX rfl rfl .plain ?_; refine K.loadX rfl hX' rfl g1' .plain <| kne rfl rfl hcc <| kmv rfl <| gmv rfl rfl rfl <| gmv rfl rfl rfl <| K.indexX rfl rfl SliceT.h (by omega) hio (.taken rfl rfl) ?_; refine K.fieldAddrX rfl rfl (.taken rfl rfl) ?_; refine K.loadX rfl hX rfl g2 (.taken rfl rfl) ?_; refine K.lenX rfl SliceT.h rfl (.taken rfl rfl) ?_; refine gmv rfl rfl rfl <| gmv rfl rfl rfl <| K.indexX rfl rfl SliceT.h (by omega) hio' (.taken rfl rfl) ?_; refine K.fieldAddrX rfl rfl (.taken rfl rfl) ?_; refine K.loadX rfl hX' rfl g2' (.taken rfl rfl) ?_; refine K.lenX rfl SliceT.h rfl (.taken rfl rfl) ?_; refine K.neq rfl rfl hvv (.taken rfl rfl) ?_; refine kpf rfl rfl <| RunK.nil <| And.intro (by kernel_rfl) ?_; refine LWP.condF rfl ?_; refine LWP.skip ?_; refine LWP.seq <| LWP.region (by kernel_rfl) <| kas rfl <| RunK.nil <| LWP.block ?_)
    refine LWP.loop (fun m σ => ∃ k : Nat, k ≤ p.val.length ∧ m = p.val.length - k ∧ σ = ⟨[(0, Lx (some ⟨blk, off, none⟩) ps.length ca), (1, Lx (some ⟨blk', off', none⟩) ps.length cb), (5, Ln .i64 (i : Nat)), (6, Ln .i64 (k : Nat))], [], X⟩) p.val.length
      ⟨_, Le.of (by exact ⟨rfl, rfl, rfl, rfl, trivial⟩) (by exact trivial) (by exact rfl) (by exact rfl) (by exact rfl), 0, by omega, rfl, rfl⟩ ?_
    rintro m σ ⟨k, hk, rfl, rfl⟩
    by_cases hkl : k < p.val.length
    · obtain ⟨⟨b, N⟩, hv⟩ : ∃ v, p.val[k]? = some v := ⟨_, List.getElem?_eq_getElem hkl⟩
      obtain ⟨h1, vb, vo, varr, vel, vfr, rfl, hVX, hVsz, hVc⟩ := hN.at hv
      obtain ⟨_, vb', vo', varr', vel', vfr', rfl, hVX', hVsz', hVc'⟩ := hN'.at hv
      have hko : vo + Int.toNat (k : Int) * 3 = vo + k * 3 := by simp
      have hko' : vo' + Int.toNat (k : Int) * 3 = vo' + k * 3 := by simp
      have heq : (b == b && (N / 18446744073709551616 == N / 18446744073709551616 && N % 18446744073709551616 == N % 18446744073709551616)) = true := by rw [beq_self_eq_true, beq_self_eq_true, beq_self_eq_true]; rfl
      (refine LWP.seq <| LWP.seq <| LWP.region (by kernel_rfl) <| kmv rfl <| kmv rfl <| kmv rfl <| K.indexX rfl rfl SliceT.h (by omega) hio .plain <| K.fieldAddrX rfl rfl .plain ?_; refine K.loadX rfl hX rfl g2 .plain <| K.lenX rfl SliceT.h rfl .plain ?_; refine klt rfl rfl (decide_eq_true (by omega)) <| RunK.nil <| LWP.condT rfl ?_; refine LWP.skip ?_; refine LWP.seq <| LWP.block <| LWP.seq <| LWP.draws mixed (by kernel_rfl) <| kmv rfl <| kmv rfl <| K.indexX rfl rfl SliceT.h (by omega) hio .plain <| K.fieldAddrX rfl rfl .plain ?_; refine K.loadX rfl hX rfl g2 .plain <| kmv rfl <| K.indexX rfl rfl SliceT.h (by omega) hko .plain <| K.loadXagg rfl hVX (by kernel_rfl) hVsz hVc .plain <| kmv rfl <| kmv rfl <| K.indexX rfl rfl SliceT.h (by omega) hio' .plain <| K.fieldAddrX rfl rfl .plain ?_; refine K.loadX rfl hX' rfl g2' .plain <| kmv rfl <| K.indexX rfl rfl SliceT.h (by omega) hko' .plain <| K.loadXagg rfl hVX' (by kernel_rfl) hVsz' hVc' .plain <| K.aggEq rfl rfl rfl rfl (by kernel_rfl) (eqI true heq) (.inr ⟨rfl, rfl⟩) .plain <| RunK.nil <| And.intro (by kernel_rfl) ?_; refine LWP.condF rfl ?_; refine LWP.skip ?_; refine LWP.region (by kernel_rfl) <| kmv rfl <| kad rfl rfl (wrap_i64 (by omega)) <| kas rfl <| RunK.nil ?_)
      exact ⟨_, _, by omega, Le.of (by exact ⟨rfl, rfl, rfl, rfl, trivial⟩) (by exact trivial) (by exact rfl) (by exact rfl) (by exact rfl), k + 1, by omega, rfl, rfl⟩
    · (refine LWP.seq <| LWP.seq <| LWP.region (by kernel_rfl) <| kmv rfl <| kmv rfl <| kmv rfl <| K.indexX rfl rfl SliceT.h (by omega) hio .plain <| K.fieldAddrX rfl rfl .plain ?_; refine K.loadX rfl hX rfl g2 .plain <| K.lenX rfl SliceT.h rfl .plain ?_; refine klt rfl rfl (decide_eq_false (by omega)) <| RunK.nil <| LWP.condF rfl ?_; refine LWP.exit <| LWP.region (by kernel_rfl) <| kmv rfl <| kad rfl rfl (wrap_i64 (by omega)) <| kas rfl <| RunK.nil ?_)
      exact ⟨_, _, by omega, Le.of (by exact ⟨rfl, rfl, rfl, trivial⟩) (by exact trivial) (by exact rfl) (by exact rfl) (by exact rfl), i + 1, by omega, rfl, rfl⟩
  · (refine LWP.seq <| LWP.seq <| LWP.region (by kernel_rfl) <| kmv rfl <| kmv rfl <| K.lenX rfl SliceT.h rfl .plain ?_; refine klt rfl rfl (decide_eq_false (by omega)) <| RunK.nil <| LWP.condF rfl ?_; refine LWP.exit <| LWP.seq <| LWP.region (by kernel_rfl) <| kas rfl <| RunK.nil <| LWP.ret ?_)
    exact ⟨[_], ⟨rfl, trivial⟩, rfl⟩
end Go.Proofs.YtnomcmklhbjfjaaGreatDoor
end
section
namespace Go.Proofs.YtnomcmklhbjfjaaGreatDoor
open Go Go.Lg Go.Lg.Fld
set_option maxRecDepth 100000
theorem PartsIn.mono {X Y : Nat → Option Obj} (hXY : ∀ b o, X b = some o → Y b = some o) {ad : Option Addr} {ps : List Pt} (h : PartsIn X ad ps) : PartsIn Y ad ps := ⟨fun i p hp => by
  obtain ⟨blk, off, arr, el, fr, vad, vcap, h1, h2, h3, h4, h5⟩ := h.at_ i p hp
  exact ⟨blk, off, arr, el, fr, vad, vcap, h1, hXY _ _ h2, h3, h4, ⟨h5.rows.mono hXY, h5.in2⟩⟩, h.small⟩
def ptR (ps : List Pt) : Rsc := ⟨fun ρ H => (∃ (arr : Array Value) (fr : Nat × Nat), H ρ.1 = some (.cells arr 41 fr) ∧ arr.size = ρ.2) ∧ PartsIn H (some ⟨ρ.1, 0, none⟩) ps⟩
abbrev ptB (k : Nat) (ps : List Pt) : Nat × Option Box := (k, some ⟨0, [], .res (ptR ps)⟩)
def canP (cs : List Cp) (ps : List Pt) : Prop := partsE cs ps = 0 ∧ risesP (-1) ps
theorem parts_ok1 {X : Nat → Option Obj} {ad : Option Addr} {s : Sc} {ps : List Pt} (hs : chkE s = 0) (hp : PartsIn X ad ps) (h : partsE s.cs ps = 0) : ∀ p ∈ ps, okP s.cs p := by
  intro p hm
  obtain ⟨i, hi⟩ := List.mem_iff_getElem?.1 hm
  obtain ⟨hil, _⟩ := List.getElem?_eq_some_iff.1 hi
  have h0 := firstE_zero h i (Nat.zero_le _) (by omega)
  unfold ptE at h0
  rw [hi] at h0
  simp only at h0
  split at h0
  · cases h0
  · obtain ⟨c, hc, _⟩ := partE_find h0
    obtain ⟨_, _, hok⟩ := ok_of_check hs
    have hcm := hok c (List.mem_of_find?_eq_some hc)
    have hid := List.find?_some hc
    simp only [beq_iff_eq] at hid
    obtain ⟨_, _, _, _, _, _, _, _, _, _, _, h5⟩ := hp.at_ i p hi
    exact ⟨h0, by rw [← hid]; exact hcm.1, h5.in2⟩
theorem parts_few {s : Sc} {ps : List Pt} (h : ∀ p ∈ ps, okP s.cs p) : ∀ p ∈ ps, p.val.length ≤ 64 * 256 := by
  intro p hp
  obtain ⟨h1, _, h3⟩ := h p hp
  obtain ⟨c, _, hf⟩ := partE_find h1
  obtain ⟨k1, k2⟩ := pack_back h3 hf
  have := unpZ_len k1
  rw [← k2, List.length_map]
  omega
instance decRises : ∀ (last : Int) (ps : List Pt), Decidable (risesP last ps)
  | _, [] => .isTrue trivial
  | last, p :: t => by
    have := decRises p.comp t
    unfold risesP
    exact inferInstance
def pErr (s : Sc) (ps : List Pt) : Int := if chkE s = 0 then (if partsE s.cs ps = 0 then (if risesP (-1) ps then 0 else 4) else partsE s.cs ps) else chkE s
def pTx (s : Sc) (ps : List Pt) : List UInt8 := if pErr s ps = 0 then encPt s.cs ps else []
theorem pErr_zero {s : Sc} {ps : List Pt} : pErr s ps = 0 ↔ chkE s = 0 ∧ canP s.cs ps := by
  unfold pErr canP
  constructor
  · intro h
    split at h
    · rename_i h0
      split at h
      · rename_i h1
        split at h
        · rename_i h2; exact ⟨h0, h1, h2⟩
        · cases h
      · rename_i h1; exact absurd h h1
    · rename_i h0; exact absurd h h0
  · rintro ⟨h0, h1, h2⟩
    rw [if_pos h0, if_pos h1, if_pos h2]
theorem pTx_no {s : Sc} {ps : List Pt} (h : pErr s ps ≠ 0) : pTx s ps = [] := if_neg h
theorem encPs_len {cs : List Cp} : ∀ {ps : List Pt}, (∀ p ∈ ps, okP cs p) → (encPs cs ps).length ≤ ps.length * 257
  | [], _ => Nat.zero_le _
  | p :: t, h => by
    obtain ⟨h1, _, h3⟩ := h p List.mem_cons_self
    obtain ⟨c, hc, hf⟩ := partE_find h1
    obtain ⟨_, hall, h256⟩ := layErr_facts (fitErr_facts hf).1
    have hfs : fsAt cs p.comp = c.fs := by unfold fsAt; rw [hc]
    have hl : (packB c.fs p.val).length = rowSize c.fs := packB_len hall p.val
    have ih := encPs_len (cs := cs) (ps := t) fun q hq => h q (List.mem_cons_of_mem _ hq)
    unfold encPs encP
    rw [hfs, List.length_append, List.length_cons, List.length_cons, hl]
    omega
variable (X : Nat → Option Obj)
end Go.Proofs.YtnomcmklhbjfjaaGreatDoor
end
section
namespace Go.Proofs.YtnomcmklhbjfjaaGreatDoor
open Go Go.Lg Go.Lg.Fld
set_option maxRecDepth 100000
def getP (cs : List Cp) (last : Int) : List UInt8 → Option (Pt × List UInt8)
  | [] => none
  | b :: r => match cs.find? (fun c => c.id == (b.toNat : Int)) with
    | none => none
    | some c => if last < (b.toNat : Int) ∧ rowSize c.fs ≤ r.length ∧ unpErr c.fs (r.take (rowSize c.fs)) = 0 then some (⟨(b.toNat : Int), (unpZ c.fs (r.take (rowSize c.fs))).map qn⟩, r.drop (rowSize c.fs)) else none
def getPs (cs : List Cp) : Nat → Int → List UInt8 → Option (List Pt × List UInt8)
  | 0, _, r => some ([], r)
  | n + 1, last, r => match getP cs last r with
    | none => none
    | some (p, t) => match getPs cs n p.comp t with
      | none => none
      | some (ps, u) => some (p :: ps, u)
def lastC : Int → List Pt → Int
  | last, [] => last
  | _, p :: t => lastC p.comp t
theorem lastC_snoc : ∀ (last : Int) (ps : List Pt) (p : Pt), lastC last (ps ++ [p]) = p.comp
  | _, [], _ => rfl
  | _, q :: t, p => lastC_snoc q.comp t p
theorem lastC_at : ∀ {last : Int} {ps : List Pt} {q : Pt}, ps[ps.length - 1]? = some q → lastC last ps = q.comp
  | _, [], q, h => by simp at h
  | _, [p], q, h => by simp at h; subst h; rfl
  | _, p :: p2 :: t, q, h => lastC_at (last := p.comp) (ps := p2 :: t) (by simpa using h)
theorem getPs_step {cs : List Cp} : ∀ {n : Nat} {last : Int} {b r r2 : List UInt8} {ps : List Pt} {p : Pt}, getPs cs n last b = some (ps, r) → getP cs (lastC last ps) r = some (p, r2) → getPs cs (n + 1) last b = some (ps ++ [p], r2)
  | 0, last, b, r, r2, ps, p, h, hp => by
    simp only [getPs, Option.some.injEq, Prod.mk.injEq] at h
    obtain ⟨rfl, rfl⟩ := h
    simp only [lastC] at hp
    simp only [getPs, hp, List.nil_append]
  | n + 1, last, b, r, r2, ps, p, h, hp => by
    rw [getPs] at h
    rw [getPs]
    cases hg : getP cs last b with
    | none => rw [hg] at h; simp at h
    | some x =>
      obtain ⟨q, b2⟩ := x
      rw [hg] at h
      simp only at h ⊢
      cases hk : getPs cs n q.comp b2 with
      | none => rw [hk] at h; simp at h
      | some y =>
        obtain ⟨qs, b3⟩ := y
        rw [hk] at h
        simp only [Option.some.injEq, Prod.mk.injEq] at h
        obtain ⟨rfl, rfl⟩ := h
        rw [getPs_step hk hp]
        rfl
theorem getPs_fail {cs : List Cp} : ∀ {n k : Nat} {last : Int} {b r : List UInt8} {ps : List Pt}, getPs cs n last b = some (ps, r) → getP cs (lastC last ps) r = none → getPs cs (n + 1 + k) last b = none
  | 0, k, last, b, r, ps, h, hp => by
    simp only [getPs, Option.some.injEq, Prod.mk.injEq] at h
    obtain ⟨rfl, rfl⟩ := h
    simp only [lastC] at hp
    rw [show 0 + 1 + k = k + 1 by omega, getPs, hp]
  | n + 1, k, last, b, r, ps, h, hp => by
    rw [getPs] at h
    rw [show n + 1 + 1 + k = (n + 1 + k) + 1 by omega, getPs]
    cases hg : getP cs last b with
    | none => rfl
    | some x =>
      obtain ⟨q, b2⟩ := x
      rw [hg] at h
      simp only at h ⊢
      cases hk : getPs cs n q.comp b2 with
      | none => rw [hk] at h; simp at h
      | some y =>
        obtain ⟨qs, b3⟩ := y
        rw [hk] at h
        simp only [Option.some.injEq, Prod.mk.injEq] at h
        obtain ⟨rfl, rfl⟩ := h
        rw [getPs_fail hk hp]
theorem decPs_get (cs : List Cp) : ∀ (n : Nat) (last : Int) (r : List UInt8), decPs cs n last r = match getPs cs n last r with | some (ps, u) => if u = [] then some ps else none | none => none
  | 0, last, r => rfl
  | n + 1, last, [] => rfl
  | n + 1, last, b :: r => by
    simp only [decPs, getPs, getP]
    cases hf : cs.find? (fun c => c.id == (b.toNat : Int)) with
    | none => rfl
    | some c =>
      simp only
      by_cases hk : last < (b.toNat : Int) ∧ rowSize c.fs ≤ r.length ∧ unpErr c.fs (r.take (rowSize c.fs)) = 0
      · rw [if_pos hk, if_pos hk]
        simp only
        rw [decPs_get cs n]
        cases getPs cs n (b.toNat : Int) (r.drop (rowSize c.fs)) with
        | none => rfl
        | some y =>
          obtain ⟨qs, u⟩ := y
          simp only
          split <;> rfl
      · rw [if_neg hk, if_neg hk]
def rdP (cs : List Cp) : List UInt8 → Option (List Pt × Bool)
  | [] => none
  | n :: r => (getPs cs n.toNat (-1) r).map fun x => (x.1, decide (x.2 = []))
theorem decP_rd (cs : List Cp) (l : List UInt8) : decP cs l = match rdP cs l with | some (ps, true) => some ps | _ => none := by
  cases l with
  | nil => rfl
  | cons n r =>
    simp only [decP, rdP, decPs_get]
    cases getPs cs n.toNat (-1) r with
    | none => rfl
    | some y =>
      obtain ⟨qs, u⟩ := y
      simp only [Option.map_some]
      by_cases h : u = []
      · rw [if_pos h, decide_eq_true h]
      · rw [if_neg h, decide_eq_false h]
theorem getP_ok {cs : List Cp} {last : Int} {r t : List UInt8} {p : Pt} (h : getP cs last r = some (p, t)) : (-9223372036854775808 ≤ p.comp ∧ p.comp < 9223372036854775808) ∧ ∀ n ∈ p.val, In2 n.2 := by
  cases r with
  | nil => cases h
  | cons b r =>
    simp only [getP] at h
    split at h
    · cases h
    · split at h
      · rename_i hk
        simp only [Option.some.injEq, Prod.mk.injEq] at h
        obtain ⟨rfl, _⟩ := h
        have := b.toNat_lt
        exact ⟨by simp only; omega, qn_in2 hk.2.2⟩
      · cases h
def rowsP : List Pt → List Value → List Value
  | p :: ps, v :: vs => .int .i64 p.comp :: v :: rowsP ps vs
  | _, _ => []
theorem rowsP_len : ∀ {ps : List Pt} {cells : List Value}, cells.length = ps.length → (rowsP ps cells).length = ps.length * 2
  | [], [], _ => rfl
  | p :: ps, v :: vs, h => by
    simp only [rowsP, List.length_cons] at h ⊢
    rw [rowsP_len (ps := ps) (cells := vs) (by omega)]; omega
  | [], _ :: _, h => by simp at h
  | _ :: _, [], h => by simp at h
theorem rowsP_split : ∀ {ps : List Pt} {cells : List Value} {i : Nat} {p : Pt} {v : Value}, ps[i]? = some p → cells[i]? = some v →
    rowsP ps cells = rowsP (ps.take i) (cells.take i) ++ .int .i64 p.comp :: v :: rowsP (ps.drop (i + 1)) (cells.drop (i + 1))
  | [], _, i, c, v, h, _ => by simp at h
  | _ :: _, [], i, c, v, _, h => by simp at h
  | a :: ps, u :: vs, 0, c, v, h1, h2 => by
    simp only [List.getElem?_cons_zero, Option.some.injEq] at h1 h2
    subst h1 h2
    rfl
  | a :: ps, u :: vs, i + 1, c, v, h1, h2 => by
    simp only [List.getElem?_cons_succ] at h1 h2
    simp only [rowsP, List.take_succ_cons, List.drop_succ_cons, List.cons_append]
    rw [rowsP_split h1 h2]
theorem rowsP_snoc : ∀ {ps : List Pt} {cells : List Value} {p : Pt} {v : Value}, cells.length = ps.length → rowsP (ps ++ [p]) (cells ++ [v]) = rowsP ps cells ++ [.int .i64 p.comp, v]
  | [], [], _, _, _ => rfl
  | a :: ps, u :: vs, p, v, h => by
    simp only [List.length_cons] at h
    simp only [List.cons_append, rowsP]
    rw [rowsP_snoc (ps := ps) (cells := vs) (by omega)]
  | [], _ :: _, _, _, h => by simp at h
  | _ :: _, [], _, _, h => by simp at h
theorem rowsP_comp {ps : List Pt} {cells : List Value} (hl : cells.length = ps.length) {i : Nat} {p : Pt} (hp : ps[i]? = some p) : ((rowsP ps cells).map CV.val)[i * 2]? = some (.val (.int .i64 p.comp)) := by
  obtain ⟨v, hv⟩ : ∃ v, cells[i]? = some v := ⟨_, List.getElem?_eq_getElem (by have := (List.getElem?_eq_some_iff.1 hp).1; omega)⟩
  have hi := (List.getElem?_eq_some_iff.1 hp).1
  have hpre : (rowsP (ps.take i) (cells.take i)).length = i * 2 := by rw [rowsP_len (by rw [List.length_take, List.length_take, hl]), List.length_take, Nat.min_eq_left (by omega)]
  rw [rowsP_split hp hv, List.getElem?_map, List.getElem?_append_right (by omega), hpre, Nat.sub_self]
  rfl
def ptV (ns : List (Bool × Int)) : List Value := (ns.map nmV).flatten
theorem nsV_pt (zs : List Int) : nsV zs = ptV (zs.map qn) := by unfold nsV ptV; rw [List.map_map]; rfl
theorem ptV_len (ns : List (Bool × Int)) : (ptV ns).length = ns.length * 3 := by
  unfold ptV
  induction ns with
  | nil => rfl
  | cons n t ih => rw [List.map_cons, List.flatten_cons, List.length_append, ih, List.length_cons]; simp [nmV]; omega
theorem leafN_in {Y : Nat → Option Obj} {v : Value} {el : TypeId} {ns : List (Bool × Int)} (h : SliceZ Y v el 3 (ptV ns)) (hs : ∀ n ∈ ns, In2 n.2) : ∃ vad vcap, v = .slice vad ns.length vcap ∧ NumsIn Y vad ns := by
  rcases h with ⟨h0, ad, cap, rfl⟩ | ⟨b, ⟨len, cap, arr, fr, rfl, h2, h3, h4, h5, sp, h6⟩, h0⟩
  · have hl : ns.length = 0 := by have := ptV_len ns; rw [h0, List.length_nil] at this; omega
    have e : ns = [] := List.eq_nil_of_length_eq_zero hl
    subst e
    exact ⟨ad, cap, rfl, fun k r hr => (by simp at hr), fun f hf => (by cases hf)⟩
  · rw [ptV_len] at h2
    have e : ns.length = len := by omega
    subst e
    exact ⟨some ⟨b, 0, none⟩, cap, rfl, rows_in h5 (fun r hr => by obtain ⟨n, _, rfl⟩ := List.mem_map.1 hr; rfl) ⟨sp, h6⟩, hs⟩
theorem parts_block {Y : Nat → Option Obj} {blk : Nat} {arr : Array Value} {el vel : TypeId} {fr : Nat × Nat} {ps : List Pt} {cells sp : List Value} (hY : Y blk = some (.cells arr el fr)) (ha : arr.toList = rowsP ps cells ++ sp) (hl : cells.length = ps.length)
    (hb : ∀ p ∈ ps, (-9223372036854775808 ≤ p.comp ∧ p.comp < 9223372036854775808) ∧ ∀ n ∈ p.val, In2 n.2) (hf : ∀ (i : Nat) (p : Pt) (v : Value), ps[i]? = some p → cells[i]? = some v → SliceZ Y v vel 3 (ptV p.val)) : PartsIn Y (some ⟨blk, 0, none⟩) ps := by
  refine ⟨fun i p hp => ?_, fun p hp => (hb p hp).1⟩
  have hi := (List.getElem?_eq_some_iff.1 hp).1
  obtain ⟨v, hv⟩ : ∃ v, cells[i]? = some v := ⟨_, List.getElem?_eq_getElem (by omega)⟩
  obtain ⟨vad, vcap, rfl, hN⟩ := leafN_in (hf i p v hp hv) (hb p (List.mem_of_getElem? hp)).2
  have hpre : (rowsP (ps.take i) (cells.take i)).length = i * 2 := by rw [rowsP_len (by rw [List.length_take, List.length_take, hl]), List.length_take, Nat.min_eq_left (by omega)]
  refine ⟨blk, 0, arr, el, fr, vad, vcap, rfl, hY, ?_, ?_, hN⟩
  · rw [← Array.length_toList, ha, List.length_append, rowsP_len hl]; omega
  · rw [ha, rowsP_split hp hv, Nat.zero_add, List.append_assoc, ← hpre, List.drop_left]; rfl
section
variable {n : Nat} {C : Ctx} {X : Nat → Option Obj} {s : List (Nat × LV)} {bx : List (Nat × Option Box)} {k : Nat}
theorem pt_shut {Mid : St → Prop} {ps : List Pt} {H : Nat → Option Obj} {cells sp : List Value} {vel : TypeId} (hO : OwnedM C X H) (G : Twigs H vel 3 [] cells (ps.map fun p => ptV p.val)) (hb : ∀ p ∈ ps, (-9223372036854775808 ≤ p.comp ∧ p.comp < 9223372036854775808) ∧ ∀ n ∈ p.val, In2 n.2)
    (h : Leads n C Mid ⟨s, ptB k ps :: bx, X⟩) : Leads n C Mid ⟨s, (k, some ⟨41, (rowsP ps cells ++ sp).map .val, false⟩) :: bx, joinM X H⟩ := by
  refine Leads.closeRes (vals := rowsP ps cells ++ sp) hO (fun ρ fr h1 h2 h3 => ?_) h
  have hl : cells.length = ps.length := by rw [G.len, List.length_map]
  refine ⟨⟨_, fr, withBlock_at _ _ _, by rw [h3]; simp⟩, ?_⟩
  refine parts_block (vel := vel) (withBlock_at _ _ _) (by simp; rfl) hl hb fun i p v hp hv => ?_
  exact ((G.more h1).at_ i v (ptV p.val) (by simp) hv (by rw [List.getElem?_map, hp]; rfl))
end
end Go.Proofs.YtnomcmklhbjfjaaGreatDoor
end
