/- A piece of a proof over this program: contracts of its functions, and a logic to prove them by. -/
import Derived.Test.YtnfbccfghgmfiaaGreatH2
import Derived.Test.YtnfbccfghgmfiaaGreatH3
import Derived.Test.YtnfbccfghgmfiaaGreatH4
import Derived.Test.YtnfbccfghgmfiaaGreatH5
import Derived.Lib.ItoaNum
import Derived.Lib.Walk
import Derived.Lib.ItoaMem
import Derived.Lib.AppendIntMem
import Derived.WalkKit
import Derived.BigCall
import Derived.BigGuard
import Derived.Lib.Repeat
import Derived.Lib.Join
import Derived.Lib.SmallJoins
import Derived.Test.YtnfbccfghgmfiaaGreatRows
section
namespace Go.Proofs.YtnfbccfghgmfiaaGreat
open Go Go.Lg Go.Lg.Fml Go.Lg.Fld Go.Lg.Arith
set_option maxRecDepth 100000
abbrev ptrF (f : FuncId) (k : Nat) : CV := .fn (.func f) (fun i => [pv i]) k
abbrev fnV (f : FuncId) : Value := .func (.func f) #[] #[]
abbrev vB (t : TypeId) (k : Nat) (c : CV) : Nat × Option Box := (k, some ⟨t, [c], false⟩)
variable (X : Nat → Option Obj)
theorem mA_ofTwo (g : FuncId) : MSpec Tryz.prog X 69 [.sv (.one (.val (fnV g)))] [] (.sv (.one (ptrF 94 1000001))) [vB 140 1000001 (.val (fnV g))] := by
  refine MSpec.intro Tryz.func69 rfl (by kernel_rfl) rfl (by exact (by repeat' (first | refine all_cons_true ?_ ?_ | rfl | exact bytes_inUse | exact vals_inUse | exact mid_inUse rfl))) (by exact (by repeat' (first | refine all_cons_true ?_ ?_ | rfl | exact bytes_inUse | exact vals_inUse | exact mid_inUse rfl))) rfl rfl ?_
  intro C
  (refine LWP.seq <| rgN <| K.box1 rfl rfl rfl .plain <| kas rfl <| RunK.nil <| LWP.seq <| rgN <| K.makeFuncP rfl rfl .plain ?_; refine kas rfl <| RunK.nil <| LWP.ret ?_)
  exact ⟨[(1000001, 1)], ⟨[_], ⟨rfl, trivial⟩, rfl⟩, (by repeat' (first | exact trivial | refine And.intro ⟨_, rfl, ?_⟩ ?_ | refine And.intro ⟨_, rfl⟩ ?_ | rfl | exact Box.ren_bytes _ _ _ _ | exact Box.ren_vals _ _ _ _ | exact Box.ren_mid rfl)), rfl, rfl⟩
theorem mB_ofTwo (g h : FuncId) (t : TypeId) : MSpec Tryz.prog X 69 [.sv (.one (ptrF g 1000002))] [vB t 1000002 (.val (fnV h))] (.sv (.one (ptrF 94 1000001))) [vB 140 1000001 (ptrF g 1000002), vB t 1000002 (.val (fnV h))] := by
  refine MSpec.intro Tryz.func69 rfl (by kernel_rfl) rfl (by exact (by repeat' (first | refine all_cons_true ?_ ?_ | rfl | exact bytes_inUse | exact vals_inUse | exact mid_inUse rfl))) (by exact (by repeat' (first | refine all_cons_true ?_ ?_ | rfl | exact bytes_inUse | exact vals_inUse | exact mid_inUse rfl))) rfl rfl ?_
  intro C
  (refine LWP.seq <| rgN <| K.box1 rfl rfl rfl .plain <| kas rfl <| RunK.nil <| LWP.seq <| rgN <| K.makeFuncP rfl rfl .plain ?_; refine kas rfl <| RunK.nil <| LWP.ret ?_)
  exact ⟨[(1000001, 1)], ⟨[_], ⟨rfl, trivial⟩, rfl⟩, (by repeat' (first | exact trivial | refine And.intro ⟨_, rfl, ?_⟩ ?_ | refine And.intro ⟨_, rfl⟩ ?_ | rfl | exact Box.ren_bytes _ _ _ _ | exact Box.ren_vals _ _ _ _ | exact Box.ren_mid rfl)), rfl, rfl⟩
theorem mC_ofTwo (g h i : FuncId) (t : TypeId) : MSpec Tryz.prog X 69 [.sv (.one (ptrF g 1000002))] [vB t 1000002 (ptrF h 1000003), vB t 1000003 (.val (fnV i))] (.sv (.one (ptrF 94 1000001))) [vB 140 1000001 (ptrF g 1000002), vB t 1000002 (ptrF h 1000003), vB t 1000003 (.val (fnV i))] := by
  refine MSpec.intro Tryz.func69 rfl (by kernel_rfl) rfl (by exact (by repeat' (first | refine all_cons_true ?_ ?_ | rfl | exact bytes_inUse | exact vals_inUse | exact mid_inUse rfl))) (by exact (by repeat' (first | refine all_cons_true ?_ ?_ | rfl | exact bytes_inUse | exact vals_inUse | exact mid_inUse rfl))) rfl rfl ?_
  intro C
  (refine LWP.seq <| rgN <| K.box1 rfl rfl rfl .plain <| kas rfl <| RunK.nil <| LWP.seq <| rgN <| K.makeFuncP rfl rfl .plain ?_; refine kas rfl <| RunK.nil <| LWP.ret ?_)
  exact ⟨[(1000001, 1)], ⟨[_], ⟨rfl, trivial⟩, rfl⟩, (by repeat' (first | exact trivial | refine And.intro ⟨_, rfl, ?_⟩ ?_ | refine And.intro ⟨_, rfl⟩ ?_ | rfl | exact Box.ren_bytes _ _ _ _ | exact Box.ren_vals _ _ _ _ | exact Box.ren_mid rfl)), rfl, rfl⟩
theorem mB_ofOne (g h : FuncId) (t : TypeId) : MSpec Tryz.prog X 75 [.sv (.one (ptrF g 1000002))] [vB t 1000002 (.val (fnV h))] (.sv (.one (ptrF 105 1000001))) [vB 138 1000001 (ptrF g 1000002), vB t 1000002 (.val (fnV h))] := by
  refine MSpec.intro Tryz.func75 rfl (by kernel_rfl) rfl (by exact (by repeat' (first | refine all_cons_true ?_ ?_ | rfl | exact bytes_inUse | exact vals_inUse | exact mid_inUse rfl))) (by exact (by repeat' (first | refine all_cons_true ?_ ?_ | rfl | exact bytes_inUse | exact vals_inUse | exact mid_inUse rfl))) rfl rfl ?_
  intro C
  (refine LWP.seq <| rgN <| K.box1 rfl rfl rfl .plain <| kas rfl <| RunK.nil <| LWP.seq <| rgN <| K.makeFuncP rfl rfl .plain ?_; refine kas rfl <| RunK.nil <| LWP.ret ?_)
  exact ⟨[(1000001, 1)], ⟨[_], ⟨rfl, trivial⟩, rfl⟩, (by repeat' (first | exact trivial | refine And.intro ⟨_, rfl, ?_⟩ ?_ | refine And.intro ⟨_, rfl⟩ ?_ | rfl | exact Box.ren_bytes _ _ _ _ | exact Box.ren_vals _ _ _ _ | exact Box.ren_mid rfl)), rfl, rfl⟩
theorem mA_ofThree (g : FuncId) : MSpec Tryz.prog X 81 [.sv (.one (.val (fnV g)))] [] (.sv (.one (ptrF 111 1000001))) [vB 165 1000001 (.val (fnV g))] := by
  refine MSpec.intro Tryz.func81 rfl (by kernel_rfl) rfl (by exact (by repeat' (first | refine all_cons_true ?_ ?_ | rfl | exact bytes_inUse | exact vals_inUse | exact mid_inUse rfl))) (by exact (by repeat' (first | refine all_cons_true ?_ ?_ | rfl | exact bytes_inUse | exact vals_inUse | exact mid_inUse rfl))) rfl rfl ?_
  intro C
  (refine LWP.seq <| rgN <| K.box1 rfl rfl rfl .plain <| kas rfl <| RunK.nil <| LWP.seq <| rgN <| K.makeFuncP rfl rfl .plain ?_; refine kas rfl <| RunK.nil <| LWP.ret ?_)
  exact ⟨[(1000001, 1)], ⟨[_], ⟨rfl, trivial⟩, rfl⟩, (by repeat' (first | exact trivial | refine And.intro ⟨_, rfl, ?_⟩ ?_ | refine And.intro ⟨_, rfl⟩ ?_ | rfl | exact Box.ren_bytes _ _ _ _ | exact Box.ren_vals _ _ _ _ | exact Box.ren_mid rfl)), rfl, rfl⟩
theorem mA_withZero (g : FuncId) : MSpec Tryz.prog X 76 [.sv (.one (.val (fnV g)))] [] (.sv (.one (ptrF 106 1000001))) [vB 140 1000001 (.val (fnV g))] := by
  refine MSpec.intro Tryz.func76 rfl (by kernel_rfl) rfl (by exact (by repeat' (first | refine all_cons_true ?_ ?_ | rfl | exact bytes_inUse | exact vals_inUse | exact mid_inUse rfl))) (by exact (by repeat' (first | refine all_cons_true ?_ ?_ | rfl | exact bytes_inUse | exact vals_inUse | exact mid_inUse rfl))) rfl rfl ?_
  intro C
  (refine LWP.seq <| rgN <| K.box1 rfl rfl rfl .plain <| kas rfl <| RunK.nil <| LWP.seq <| rgN <| K.makeFuncP rfl rfl .plain ?_; refine kas rfl <| RunK.nil <| LWP.ret ?_)
  exact ⟨[(1000001, 1)], ⟨[_], ⟨rfl, trivial⟩, rfl⟩, (by repeat' (first | exact trivial | refine And.intro ⟨_, rfl, ?_⟩ ?_ | refine And.intro ⟨_, rfl⟩ ?_ | rfl | exact Box.ren_bytes _ _ _ _ | exact Box.ren_vals _ _ _ _ | exact Box.ren_mid rfl)), rfl, rfl⟩
theorem mA_chosen (g : FuncId) : MSpec Tryz.prog X 77 [.sv (.one (.val (fnV g)))] [] (.sv (.one (ptrF 107 1000001))) [vB 140 1000001 (.val (fnV g))] := by
  refine MSpec.intro Tryz.func77 rfl (by kernel_rfl) rfl (by exact (by repeat' (first | refine all_cons_true ?_ ?_ | rfl | exact bytes_inUse | exact vals_inUse | exact mid_inUse rfl))) (by exact (by repeat' (first | refine all_cons_true ?_ ?_ | rfl | exact bytes_inUse | exact vals_inUse | exact mid_inUse rfl))) rfl rfl ?_
  intro C
  (refine LWP.seq <| rgN <| K.box1 rfl rfl rfl .plain <| kas rfl <| RunK.nil <| LWP.seq <| rgN <| K.makeFuncP rfl rfl .plain ?_; refine kas rfl <| RunK.nil <| LWP.ret ?_)
  exact ⟨[(1000001, 1)], ⟨[_], ⟨rfl, trivial⟩, rfl⟩, (by repeat' (first | exact trivial | refine And.intro ⟨_, rfl, ?_⟩ ?_ | refine And.intro ⟨_, rfl⟩ ?_ | rfl | exact Box.ren_bytes _ _ _ _ | exact Box.ren_vals _ _ _ _ | exact Box.ren_mid rfl)), rfl, rfl⟩
theorem mB_chosen (g h : FuncId) (t : TypeId) : MSpec Tryz.prog X 77 [.sv (.one (ptrF g 1000002))] [vB t 1000002 (.val (fnV h))] (.sv (.one (ptrF 107 1000001))) [vB 140 1000001 (ptrF g 1000002), vB t 1000002 (.val (fnV h))] := by
  refine MSpec.intro Tryz.func77 rfl (by kernel_rfl) rfl (by exact (by repeat' (first | refine all_cons_true ?_ ?_ | rfl | exact bytes_inUse | exact vals_inUse | exact mid_inUse rfl))) (by exact (by repeat' (first | refine all_cons_true ?_ ?_ | rfl | exact bytes_inUse | exact vals_inUse | exact mid_inUse rfl))) rfl rfl ?_
  intro C
  (refine LWP.seq <| rgN <| K.box1 rfl rfl rfl .plain <| kas rfl <| RunK.nil <| LWP.seq <| rgN <| K.makeFuncP rfl rfl .plain ?_; refine kas rfl <| RunK.nil <| LWP.ret ?_)
  exact ⟨[(1000001, 1)], ⟨[_], ⟨rfl, trivial⟩, rfl⟩, (by repeat' (first | exact trivial | refine And.intro ⟨_, rfl, ?_⟩ ?_ | refine And.intro ⟨_, rfl⟩ ?_ | rfl | exact Box.ren_bytes _ _ _ _ | exact Box.ren_vals _ _ _ _ | exact Box.ren_mid rfl)), rfl, rfl⟩
theorem mA_swapped (g : FuncId) : MSpec Tryz.prog X 79 [.sv (.one (.val (fnV g)))] [] (.sv (.one (ptrF 110 1000001))) [vB 140 1000001 (.val (fnV g))] := by
  refine MSpec.intro Tryz.func79 rfl (by kernel_rfl) rfl (by exact (by repeat' (first | refine all_cons_true ?_ ?_ | rfl | exact bytes_inUse | exact vals_inUse | exact mid_inUse rfl))) (by exact (by repeat' (first | refine all_cons_true ?_ ?_ | rfl | exact bytes_inUse | exact vals_inUse | exact mid_inUse rfl))) rfl rfl ?_
  intro C
  (refine LWP.seq <| rgN <| K.box1 rfl rfl rfl .plain <| kas rfl <| RunK.nil <| LWP.seq <| rgN <| K.makeFuncP rfl rfl .plain ?_; refine kas rfl <| RunK.nil <| LWP.ret ?_)
  exact ⟨[(1000001, 1)], ⟨[_], ⟨rfl, trivial⟩, rfl⟩, (by repeat' (first | exact trivial | refine And.intro ⟨_, rfl, ?_⟩ ?_ | refine And.intro ⟨_, rfl⟩ ?_ | rfl | exact Box.ren_bytes _ _ _ _ | exact Box.ren_vals _ _ _ _ | exact Box.ren_mid rfl)), rfl, rfl⟩
def deedR (f : FuncId) (op : Int) : Rsc := ⟨fun ρ H => DeedV H (.func (.func f) #[] #[pv ρ.1]) op⟩
section
variable {X : Nat → Option Obj} {n : Nat} {C : Ctx} {Mid : St → Prop} {s : List (Nat × LV)} {bx : List (Nat × Option Box)} {k k1 k2 k3 : Nat} {t1 t2 t3 : TypeId} {f g h : FuncId} {op : Int} {v : Value}
theorem deed_shut1 (hD : ∀ (Y : Nat → Option Obj) b a e fr, Y b = some (.cells a e fr) → a[0]? = some v → DeedV Y (.func (.func f) #[] #[pv b]) op)
    (hl : Leads n C Mid ⟨s, (k, some ⟨0, [], .res (deedR f op)⟩) :: bx, X⟩) : Leads n C Mid ⟨s, vB t1 k (.val v) :: bx, X⟩ := by
  have := Leads.closeRes (el := t1) (H := fun _ => none) (vals := [v]) (R := deedR f op) (OwnedM.nil C X) (fun ρ fr _ _ _ => hD _ ρ.1 _ t1 fr (withBlock_at _ _ _) rfl) hl
  rw [joinM_nil] at this
  exact this
theorem deed_shut2 (hD : ∀ (Y : Nat → Option Obj) b a e fr b' a' e' fr', Y b = some (.cells a e fr) → a[0]? = some v → Y b' = some (.cells a' e' fr') → a'[0]? = some (.func (.func g) #[] #[pv b]) → DeedV Y (.func (.func f) #[] #[pv b']) op)
    (h1 : Go.Lg.look k1 (vB t2 k2 (ptrF g k1) :: bx) = none) (h2 : s.all (fun p => p.2.inUse (vB t2 k2 (ptrF g k1) :: bx)) = true) (h3 : bx.all (fun p => match p.2 with | some b => b.cells.all (CV.inUse (vB t2 k2 (ptrF g k1) :: bx)) | none => true) = true)
    (hl : Leads n C Mid ⟨s, (k2, some ⟨0, [], .res (deedR f op)⟩) :: bx, X⟩) : Leads n C Mid ⟨s, vB t2 k2 (ptrF g k1) :: vB t1 k1 (.val v) :: bx, X⟩ := by
  refine Leads.fixBox (vals := [v]) (el := t1) (row := false) [] [vB t2 k2 (ptrF g k1)] h1 h2 h3 rfl (by simp [CV.fixIn]) ?_
  intro blk arr fr hX hF hsp
  obtain ⟨sp, hsp⟩ := hsp
  have ha : arr[0]? = some v := by rw [← Array.getElem?_toList, hsp]; rfl
  have hO : OwnedM C X (withBlock (fun _ => none) blk (.cells arr t1 fr)) := (OwnedM.nil C X).more hF (by rw [joinM_nil]; exact hX)
  have e : withBlock X blk (.cells arr t1 fr) = joinM X (withBlock (fun _ => none) blk (.cells arr t1 fr)) := by rw [← joinM_with, joinM_nil]
  rw [e]
  have hfix : fixB k1 blk [vB t2 k2 (ptrF g k1)] ++ bx = (k2, some ⟨t2, ([.func (.func g) #[] #[pv blk]] : List Value).map .val, false⟩) :: bx := by
    simp [fixB, Box.fix, CV.fix, Nat.beq_refl]
  rw [hfix]
  refine Leads.closeRes hO (fun ρ fr2 h5 h6 _ => ?_) hl
  exact hD _ blk arr t1 fr ρ.1 _ t2 fr2 (withBlock_old h5 _ _ (withBlock_at _ _ _)) ha (withBlock_at _ _ _) rfl
theorem deed_shut3 (hD : ∀ (Y : Nat → Option Obj) b a e fr b' a' e' fr' b2 a2 e2 fr2, Y b = some (.cells a e fr) → a[0]? = some v → Y b' = some (.cells a' e' fr') → a'[0]? = some (.func (.func h) #[] #[pv b]) → Y b2 = some (.cells a2 e2 fr2) → a2[0]? = some (.func (.func g) #[] #[pv b']) → DeedV Y (.func (.func f) #[] #[pv b2]) op)
    (h1 : Go.Lg.look k1 (vB t3 k3 (ptrF g k2) :: vB t2 k2 (ptrF h k1) :: bx) = none) (h2 : s.all (fun p => p.2.inUse (vB t3 k3 (ptrF g k2) :: vB t2 k2 (ptrF h k1) :: bx)) = true) (h3 : bx.all (fun p => match p.2 with | some b => b.cells.all (CV.inUse (vB t3 k3 (ptrF g k2) :: vB t2 k2 (ptrF h k1) :: bx)) | none => true) = true)
    (h1' : Go.Lg.look k2 (vB t3 k3 (ptrF g k2) :: bx) = none) (h2' : s.all (fun p => p.2.inUse (vB t3 k3 (ptrF g k2) :: bx)) = true) (h3' : bx.all (fun p => match p.2 with | some b => b.cells.all (CV.inUse (vB t3 k3 (ptrF g k2) :: bx)) | none => true) = true) (h4 : Nat.beq k2 k1 = false)
    (hl : Leads n C Mid ⟨s, (k3, some ⟨0, [], .res (deedR f op)⟩) :: bx, X⟩) : Leads n C Mid ⟨s, vB t3 k3 (ptrF g k2) :: vB t2 k2 (ptrF h k1) :: vB t1 k1 (.val v) :: bx, X⟩ := by
  have h5 : (Go.Lg.look k2 (vB t3 k3 (ptrF g k2) :: vB t2 k2 (ptrF h k1) :: bx)).isSome = true := by
    cases hb : Nat.beq k3 k2 with
    | true => simp only [Go.Lg.look, hb, cond_true]; rfl
    | false => simp only [Go.Lg.look, hb, cond_false, Nat.beq_refl, cond_true]; rfl
  refine Leads.fixBox (vals := [v]) (el := t1) (row := false) [] [vB t3 k3 (ptrF g k2), vB t2 k2 (ptrF h k1)] h1 h2 h3 rfl (by simp only [List.all_cons, List.all_nil, CV.fixIn, Nat.beq_refl, Bool.true_or, Bool.and_true, Bool.or_eq_true]; exact .inr h5) ?_
  intro blk arr fr hX hF hsp
  obtain ⟨sp, hsp⟩ := hsp
  have ha : arr[0]? = some v := by rw [← Array.getElem?_toList, hsp]; rfl
  have hO : OwnedM C X (withBlock (fun _ => none) blk (.cells arr t1 fr)) := (OwnedM.nil C X).more hF (by rw [joinM_nil]; exact hX)
  have e : withBlock X blk (.cells arr t1 fr) = joinM X (withBlock (fun _ => none) blk (.cells arr t1 fr)) := by rw [← joinM_with, joinM_nil]
  rw [e]
  have hfix : fixB k1 blk [vB t3 k3 (ptrF g k2), vB t2 k2 (ptrF h k1)] ++ bx = vB t3 k3 (ptrF g k2) :: (k2, some ⟨t2, ([.func (.func h) #[] #[pv blk]] : List Value).map .val, false⟩) :: bx := by
    simp [fixB, Box.fix, CV.fix, Nat.beq_refl, h4]
  rw [hfix]
  refine Leads.fixBox (vals := [.func (.func h) #[] #[pv blk]]) (el := t2) (row := false) [] [vB t3 k3 (ptrF g k2)] h1' h2' h3' rfl (by simp [CV.fixIn]) ?_
  intro blk2 arr2 fr2 hX2 hF2 hsp2
  obtain ⟨sp2, hsp2⟩ := hsp2
  have ha2 : arr2[0]? = some (.func (.func h) #[] #[pv blk]) := by rw [← Array.getElem?_toList, hsp2]; rfl
  have hO2 := hO.more (el := t2) hF2 hX2
  have hn2 := (joinM_none hX2).1
  rw [joinM_with]
  have hfix : fixB k2 blk2 [vB t3 k3 (ptrF g k2)] ++ bx = (k3, some ⟨t3, ([.func (.func g) #[] #[pv blk2]] : List Value).map .val, false⟩) :: bx := by
    simp [fixB, Box.fix, CV.fix, Nat.beq_refl]
  rw [hfix]
  refine Leads.closeRes hO2 (fun ρ fr3 h5 h6 _ => ?_) hl
  exact hD _ blk arr t1 fr blk2 arr2 t2 fr2 ρ.1 _ t3 fr3 (withBlock_old h5 _ _ (withBlock_old hn2 _ _ (withBlock_at _ _ _))) ha (withBlock_old h5 _ _ (withBlock_at _ _ _)) ha2 (withBlock_at _ _ _) rfl
end
theorem gd_truth (b : Bool) : gd (truth b) = true := by cases b <;> rfl
theorem pick_truth (b : Bool) (x y : Nm) : pickX (truth b) x y = .ok (if b = true then x else y) := by
  unfold pickX
  rw [gd_truth, if_neg (by decide)]
  cases b
  · rw [if_pos (show truth false = (false, 0) from rfl)]; rfl
  · rw [if_neg (show truth true ≠ (false, 0) by decide)]; rfl
theorem zz_inj {x y : Nm} (hx : In2 x.2) (hy : In2 y.2) (gx : gd x = true) (gy : gd y = true) (h : zz x = zz y) : x = y := by
  obtain ⟨a, M⟩ := x
  obtain ⟨b, N⟩ := y
  unfold gd formB at gx gy
  unfold zz zv at h
  unfold In2 at hx hy
  simp only at *
  cases a <;> cases b <;> simp_all <;> omega
theorem node_neg {u : Nm} (hu : In2 u.2) : nodeX 10 [u] = doX 6 (false, 0) u := by
  rw [nodeX]
  unfold doX
  rw [show (gd (false, 0) && gd u) = gd u by rw [show gd (false, 0) = true from rfl, Bool.true_and]]
  cases g : gd u with
  | false => rfl
  | true =>
    have hr := (gd_q g hu).2
    rw [if_neg (by decide), if_pos rfl, if_neg (by decide), if_neg (by omega), show arith 6 (zz (false, 0)) (zz u) = -(zz u) by unfold arith; rw [if_neg (by decide), if_pos rfl, show zz (false, 0) = 0 from rfl]; omega, if_pos (by unfold R127 at *; omega)]
theorem node_not (u : Nm) : nodeX 15 [u] = sameX (false, 0) u := by
  rw [nodeX]
  unfold sameX truX
  rw [show (gd (false, 0) && gd u) = gd u by rw [show gd (false, 0) = true from rfl, Bool.true_and], if_neg (show ¬ (15 : Int) = 10 by decide)]
  have e : decide (((false, 0) : Nm) = u) = decide (u = (false, 0)) := by
    by_cases h : u = (false, 0)
    · rw [decide_eq_true h, decide_eq_true h.symm]
    · rw [decide_eq_false h, decide_eq_false (fun e => h e.symm)]
  rw [e]
theorem less_ok {x y a : Nm} (h : lessX x y = .ok a) : In2 a.2 := by
  unfold lessX truX at h
  split at h
  · cases h
  · cases h; exact truth_in2 _
theorem less_err {x y : Nm} {e : Int} (h : lessX x y = .error e) : e ≠ 0 := by
  unfold lessX truX at h
  split at h
  · cases h; decide
  · cases h
theorem node_least {x y : Nm} (hx : In2 x.2) (hy : In2 y.2) : nodeX 11 [x, y] = choX lessX x y := by
  rw [nodeX]
  rw [if_neg (by decide), if_neg (by decide), if_pos (rfl : (11 : Int) = 11)]
  unfold choX lessX truX
  cases g : (gd x && gd y) with
  | false => rfl
  | true =>
    obtain ⟨gx, gy⟩ := Bool.and_eq_true_iff.1 g
    simp only [Bool.true_eq_false, if_false, pick_truth]
    by_cases h : zz x < zz y
    · rw [if_neg (by omega), if_pos (decide_eq_true h)]
    · rw [if_neg (show ¬ decide (zz x < zz y) = true by rw [decide_eq_false h]; decide)]
      by_cases h2 : zz y < zz x
      · rw [if_pos h2]
      · rw [if_neg h2, zz_inj hx hy gx gy (by omega)]
theorem node_great {x y : Nm} (hx : In2 x.2) (hy : In2 y.2) : nodeX 12 [x, y] = choX (fun x y => lessX y x) x y := by
  rw [nodeX]
  rw [if_neg (by decide), if_neg (by decide), if_neg (show ¬ (12 : Int) = 11 by decide), if_pos (rfl : (12 : Int) = 12)]
  unfold choX lessX truX
  simp only
  rw [Bool.and_comm]
  cases g : (gd y && gd x) with
  | false => rfl
  | true =>
    obtain ⟨gy, gx⟩ := Bool.and_eq_true_iff.1 g
    simp only [Bool.true_eq_false, if_false, pick_truth]
    by_cases h : zz y < zz x
    · rw [if_neg (by omega), if_pos (decide_eq_true h)]
    · rw [if_neg (show ¬ decide (zz y < zz x) = true by rw [decide_eq_false h]; decide)]
      by_cases h2 : zz x < zz y
      · rw [if_pos h2]
      · rw [if_neg h2, zz_inj hx hy gx gy (by omega)]
theorem node_same (x y : Nm) : nodeX 13 [x, y] = sameX x y := by
  rw [nodeX]
  rw [if_neg (by decide), if_neg (by decide), if_neg (show ¬ (13 : Int) = 11 by decide), if_neg (show ¬ (13 : Int) = 12 by decide), if_pos (rfl : (13 : Int) = 13)]
  rfl
theorem node_less (x y : Nm) : nodeX 14 [x, y] = lessX x y := by
  rw [nodeX]
  rw [if_neg (by decide), if_neg (by decide), if_neg (show ¬ (14 : Int) = 11 by decide), if_neg (show ¬ (14 : Int) = 12 by decide), if_neg (show ¬ (14 : Int) = 13 by decide)]
  rfl
theorem node_need (x y : Nm) : nodeX 17 [x, y] = needX x y := by
  rw [nodeX]
  rw [if_neg (by decide), if_pos rfl]
  rfl
theorem node_do {op : Int} (ho : 5 ≤ op ∧ op ≤ 9) (x y : Nm) : nodeX op [x, y] = doX op x y := if_pos ho
def cloF (op : Int) : FuncId := if op = 16 then 111 else if op = 10 ∨ op = 15 then 105 else 94
def wordS (op : Int) : List UInt8 := if 5 ≤ op ∧ op ≤ 17 then wordX op else []
def rowL (op : Int) : List Value := [.string ⟨(wordS op).toArray⟩, .int .i64 (takes op : Nat), .bool (op == 2 || op == 3), .bool (op == 2), .bool (op == 1)]
abbrev LRow (op : Int) (c : CV) : LV := .sv (.agg ((rowL op).map .val ++ [c]))
abbrev dB (k : Nat) (op : Int) : Nat × Option Box := (k, some ⟨0, [], .res (deedR (cloF op) op)⟩)
def leafV (op : Int) : Value := if op = 1 then fnV 65 else if op = 2 then fnV 66 else if op = 3 then fnV 67 else if op = 4 then fnV 68 else .nilFunc
def rwR (op : Int) : LV := if 5 ≤ op ∧ op ≤ 17 then LRow op (ptrF (cloF op) 1000001) else LRow op (.val (leafV op))
def rwBx (op : Int) : List (Nat × Option Box) := if 5 ≤ op ∧ op ≤ 17 then [dB 1000001 op] else []
theorem rw_fn {op : Int} (h : 5 ≤ op ∧ op ≤ 17) : rwR op = LRow op (ptrF (cloF op) 1000001) ∧ rwBx op = [dB 1000001 op] := ⟨if_pos h, if_pos h⟩
theorem rw_no {op : Int} (h : ¬ (5 ≤ op ∧ op ≤ 17)) : rwR op = LRow op (.val (leafV op)) ∧ rwBx op = [] := ⟨if_neg h, if_neg h⟩
theorem rwBx_use (op : Int) : ((rwBx op).all fun p => match p.2 with | some b => b.cells.all (CV.inUse (rwBx op)) | none => true) = true := by
  by_cases h : 5 ≤ op ∧ op ≤ 17
  · rw [(rw_fn h).2]; rfl
  · rw [(rw_no h).2]; rfl
theorem rwR_use (op : Int) : LV.inUse (rwBx op) (rwR op) = true := by
  by_cases h : 5 ≤ op ∧ op ≤ 17
  · rw [(rw_fn h).1, (rw_fn h).2]; rfl
  · rw [(rw_no h).1, (rw_no h).2]; rfl
theorem rowL_bad {op : Int} (h : op < 1 ∨ 17 < op) : rowL op = [.string ⟨#[]⟩, .int .i64 0, .bool false, .bool false, .bool false] := by
  unfold rowL wordS
  rw [if_neg (by omega), takes_out (by omega), beq_eq_false_iff_ne.2 (show op ≠ 2 by omega), beq_eq_false_iff_ne.2 (show op ≠ 3 by omega), beq_eq_false_iff_ne.2 (show op ≠ 1 by omega)]
  rfl
set_option maxHeartbeats 12800000 in
theorem rowOf_all (op : Int) : MSpec Tryz.prog X 50 [Ln .i64 op] [] (rwR op) (rwBx op) := by
  refine MSpec.intro Tryz.func50 rfl (by kernel_rfl) rfl (rwR_use op) (rwBx_use op) rfl rfl ?_
  intro C
  refine LWP.ends ?_
  (refine LWP.seq <| rgN <| K.alloc rfl .plain ?_; refine RunK.nil <| LWP.seq <| LWP.seq <| rgN <| kmv rfl <| RunK.nil <| LWP.block <| LWP.seq ?_)
  by_cases c1 : op = 1
  · subst c1
    rw [(rw_no (op := 1) (by decide)).1, (rw_no (op := 1) (by decide)).2]
    (refine rgN <| keq rfl rfl (r := true) rfl <| kas rfl <| RunK.nil <| LWP.condT rfl ?_; refine LWP.seq <| rgN <| K.build rfl rfl (by exact rfl) (by exact nl3 rfl rfl rfl rfl) .plain ?_; refine K.build rfl rfl (by exact rfl) (by exact nl6 rfl rfl rfl rfl rfl rfl rfl) .plain ?_; refine K.storeAll rfl rfl rfl rfl rfl rfl .plain ?_; refine RunK.nil <| LWP.ret ?_)
    exact Leads.done ⟨[], ⟨[_], ⟨⟨_, _, rfl, rfl, rfl, .inl ⟨AggT.h, rfl⟩⟩, trivial⟩, rfl⟩, trivial, rfl, rfl⟩
  (refine rgN <| keq rfl rfl (r := false) (beq_eq_false_iff_ne.2 c1) <| kas rfl <| RunK.nil <| LWP.condF rfl ?_; refine LWP.seq ?_)
  by_cases c2 : op = 2
  · subst c2
    rw [(rw_no (op := 2) (by decide)).1, (rw_no (op := 2) (by decide)).2]
    (refine rgN <| keq rfl rfl (r := true) rfl <| kas rfl <| RunK.nil <| LWP.condT rfl ?_; refine LWP.seq <| rgN <| K.build rfl rfl (by exact rfl) (by exact nl3 rfl rfl rfl rfl) .plain ?_; refine K.build rfl rfl (by exact rfl) (by exact nl6 rfl rfl rfl rfl rfl rfl rfl) .plain ?_; refine K.storeAll rfl rfl rfl rfl rfl rfl .plain ?_; refine RunK.nil <| LWP.ret ?_)
    exact Leads.done ⟨[], ⟨[_], ⟨⟨_, _, rfl, rfl, rfl, .inl ⟨AggT.h, rfl⟩⟩, trivial⟩, rfl⟩, trivial, rfl, rfl⟩
  (refine rgN <| keq rfl rfl (r := false) (beq_eq_false_iff_ne.2 c2) <| kas rfl <| RunK.nil <| LWP.condF rfl ?_; refine LWP.seq ?_)
  by_cases c3 : op = 3
  · subst c3
    rw [(rw_no (op := 3) (by decide)).1, (rw_no (op := 3) (by decide)).2]
    (refine rgN <| keq rfl rfl (r := true) rfl <| kas rfl <| RunK.nil <| LWP.condT rfl ?_; refine LWP.seq <| rgN <| K.build rfl rfl (by exact rfl) (by exact nl3 rfl rfl rfl rfl) .plain ?_; refine K.build rfl rfl (by exact rfl) (by exact nl6 rfl rfl rfl rfl rfl rfl rfl) .plain ?_; refine K.storeAll rfl rfl rfl rfl rfl rfl .plain ?_; refine RunK.nil <| LWP.ret ?_)
    exact Leads.done ⟨[], ⟨[_], ⟨⟨_, _, rfl, rfl, rfl, .inl ⟨AggT.h, rfl⟩⟩, trivial⟩, rfl⟩, trivial, rfl, rfl⟩
  (refine rgN <| keq rfl rfl (r := false) (beq_eq_false_iff_ne.2 c3) <| kas rfl <| RunK.nil <| LWP.condF rfl ?_; refine LWP.seq ?_)
  by_cases c4 : op = 4
  · subst c4
    rw [(rw_no (op := 4) (by decide)).1, (rw_no (op := 4) (by decide)).2]
    (refine rgN <| keq rfl rfl (r := true) rfl <| kas rfl <| RunK.nil <| LWP.condT rfl ?_; refine LWP.seq <| rgN <| K.build rfl rfl (by exact rfl) (by exact nl6 rfl rfl rfl rfl rfl rfl rfl) .plain ?_; refine K.storeAll rfl rfl rfl rfl rfl rfl .plain ?_; refine RunK.nil <| LWP.ret ?_)
    exact Leads.done ⟨[], ⟨[_], ⟨⟨_, _, rfl, rfl, rfl, .inl ⟨AggT.h, rfl⟩⟩, trivial⟩, rfl⟩, trivial, rfl, rfl⟩
  (refine rgN <| keq rfl rfl (r := false) (beq_eq_false_iff_ne.2 c4) <| kas rfl <| RunK.nil <| LWP.condF rfl ?_; refine LWP.seq ?_)
  by_cases c5 : op = 5
  · subst c5
    rw [(rw_fn (op := 5) (by decide)).1, (rw_fn (op := 5) (by decide)).2]
    (refine rgN <| keq rfl rfl (r := true) rfl <| kas rfl <| RunK.nil <| LWP.condT rfl ?_; refine LWP.seq <| rgN <| K.callMp [(1000001, 501)] (.sv (.one (ptrF 94 501))) [vB 140 501 (.val (fnV 70))] ((mA_ofTwo X 70)) rfl rfl (by exact trivial) rfl rfl rfl rfl rfl (by exact (.box rfl rfl .nil)) .plain <| K.build rfl rfl (by exact rfl) (by exact nl6 rfl rfl rfl rfl rfl rfl rfl) .plain ?_; refine K.storeAll rfl rfl rfl rfl rfl rfl .plain ?_; refine RunK.nil <| LWP.ret ?_)
    refine Leads.le (σ' := ⟨[(2, Lp 2)], vB 140 501 (.val (fnV 70)) :: (2, some ⟨101, (rowL 5).map .val ++ [ptrF (cloF 5) 501], false⟩) :: [], X⟩) (Le.of (by exact ⟨rfl, trivial⟩) (by exact ⟨rfl, rfl, trivial⟩) (by exact rfl) (by exact rfl) (by repeat' (first | refine all_cons_true ?_ ?_ | rfl | exact bytes_inUse | exact vals_inUse | exact mid_inUse rfl))) ?_
    refine deed_shut1 (f := cloF 5) (op := 5) (fun Y _ _ _ _ h1 h2 => deed_two rfl h1 h2 (two_fn Y (fun Z x y hx hy => wAdd_do Z x y hx hy)) (fun u w _ _ => node_do (by decide) u w)) (Leads.done ?_)
    exact ⟨[(1000001, 501)], ⟨[_], ⟨⟨_, _, rfl, rfl, rfl, .inl ⟨AggT.h, rfl⟩⟩, trivial⟩, rfl⟩, (by repeat' (first | exact trivial | refine And.intro ⟨_, rfl, ?_⟩ ?_ | refine And.intro ⟨_, rfl⟩ ?_ | rfl | exact Box.ren_bytes _ _ _ _ | exact Box.ren_vals _ _ _ _ | exact Box.ren_mid rfl)), rfl, rfl⟩
  (refine rgN <| keq rfl rfl (r := false) (beq_eq_false_iff_ne.2 c5) <| kas rfl <| RunK.nil <| LWP.condF rfl ?_; refine LWP.seq ?_)
  by_cases c6 : op = 6
  · subst c6
    rw [(rw_fn (op := 6) (by decide)).1, (rw_fn (op := 6) (by decide)).2]
    (refine rgN <| keq rfl rfl (r := true) rfl <| kas rfl <| RunK.nil <| LWP.condT rfl ?_; refine LWP.seq <| rgN <| K.callMp [(1000001, 501)] (.sv (.one (ptrF 94 501))) [vB 140 501 (.val (fnV 71))] ((mA_ofTwo X 71)) rfl rfl (by exact trivial) rfl rfl rfl rfl rfl (by exact (.box rfl rfl .nil)) .plain <| K.build rfl rfl (by exact rfl) (by exact nl6 rfl rfl rfl rfl rfl rfl rfl) .plain ?_; refine K.storeAll rfl rfl rfl rfl rfl rfl .plain ?_; refine RunK.nil <| LWP.ret ?_)
    refine Leads.le (σ' := ⟨[(2, Lp 2)], vB 140 501 (.val (fnV 71)) :: (2, some ⟨101, (rowL 6).map .val ++ [ptrF (cloF 6) 501], false⟩) :: [], X⟩) (Le.of (by exact ⟨rfl, trivial⟩) (by exact ⟨rfl, rfl, trivial⟩) (by exact rfl) (by exact rfl) (by repeat' (first | refine all_cons_true ?_ ?_ | rfl | exact bytes_inUse | exact vals_inUse | exact mid_inUse rfl))) ?_
    refine deed_shut1 (f := cloF 6) (op := 6) (fun Y _ _ _ _ h1 h2 => deed_two rfl h1 h2 (two_fn Y (fun Z x y hx hy => wSub_do Z x y hx hy)) (fun u w _ _ => node_do (by decide) u w)) (Leads.done ?_)
    exact ⟨[(1000001, 501)], ⟨[_], ⟨⟨_, _, rfl, rfl, rfl, .inl ⟨AggT.h, rfl⟩⟩, trivial⟩, rfl⟩, (by repeat' (first | exact trivial | refine And.intro ⟨_, rfl, ?_⟩ ?_ | refine And.intro ⟨_, rfl⟩ ?_ | rfl | exact Box.ren_bytes _ _ _ _ | exact Box.ren_vals _ _ _ _ | exact Box.ren_mid rfl)), rfl, rfl⟩
  (refine rgN <| keq rfl rfl (r := false) (beq_eq_false_iff_ne.2 c6) <| kas rfl <| RunK.nil <| LWP.condF rfl ?_; refine LWP.seq ?_)
  by_cases c7 : op = 7
  · subst c7
    rw [(rw_fn (op := 7) (by decide)).1, (rw_fn (op := 7) (by decide)).2]
    (refine rgN <| keq rfl rfl (r := true) rfl <| kas rfl <| RunK.nil <| LWP.condT rfl ?_; refine LWP.seq <| rgN <| K.callMp [(1000001, 501)] (.sv (.one (ptrF 94 501))) [vB 140 501 (.val (fnV 72))] ((mA_ofTwo X 72)) rfl rfl (by exact trivial) rfl rfl rfl rfl rfl (by exact (.box rfl rfl .nil)) .plain <| K.build rfl rfl (by exact rfl) (by exact nl6 rfl rfl rfl rfl rfl rfl rfl) .plain ?_; refine K.storeAll rfl rfl rfl rfl rfl rfl .plain ?_; refine RunK.nil <| LWP.ret ?_)
    refine Leads.le (σ' := ⟨[(2, Lp 2)], vB 140 501 (.val (fnV 72)) :: (2, some ⟨101, (rowL 7).map .val ++ [ptrF (cloF 7) 501], false⟩) :: [], X⟩) (Le.of (by exact ⟨rfl, trivial⟩) (by exact ⟨rfl, rfl, trivial⟩) (by exact rfl) (by exact rfl) (by repeat' (first | refine all_cons_true ?_ ?_ | rfl | exact bytes_inUse | exact vals_inUse | exact mid_inUse rfl))) ?_
    refine deed_shut1 (f := cloF 7) (op := 7) (fun Y _ _ _ _ h1 h2 => deed_two rfl h1 h2 (two_fn Y (fun Z x y hx hy => wMul_do Z x y hx hy)) (fun u w _ _ => node_do (by decide) u w)) (Leads.done ?_)
    exact ⟨[(1000001, 501)], ⟨[_], ⟨⟨_, _, rfl, rfl, rfl, .inl ⟨AggT.h, rfl⟩⟩, trivial⟩, rfl⟩, (by repeat' (first | exact trivial | refine And.intro ⟨_, rfl, ?_⟩ ?_ | refine And.intro ⟨_, rfl⟩ ?_ | rfl | exact Box.ren_bytes _ _ _ _ | exact Box.ren_vals _ _ _ _ | exact Box.ren_mid rfl)), rfl, rfl⟩
  (refine rgN <| keq rfl rfl (r := false) (beq_eq_false_iff_ne.2 c7) <| kas rfl <| RunK.nil <| LWP.condF rfl ?_; refine LWP.seq ?_)
  by_cases c8 : op = 8
  · subst c8
    rw [(rw_fn (op := 8) (by decide)).1, (rw_fn (op := 8) (by decide)).2]
    (refine rgN <| keq rfl rfl (r := true) rfl <| kas rfl <| RunK.nil <| LWP.condT rfl ?_; refine LWP.seq <| rgN <| K.callMp [(1000001, 501)] (.sv (.one (ptrF 94 501))) [vB 140 501 (.val (fnV 73))] ((mA_ofTwo X 73)) rfl rfl (by exact trivial) rfl rfl rfl rfl rfl (by exact (.box rfl rfl .nil)) .plain <| K.build rfl rfl (by exact rfl) (by exact nl6 rfl rfl rfl rfl rfl rfl rfl) .plain ?_; refine K.storeAll rfl rfl rfl rfl rfl rfl .plain ?_; refine RunK.nil <| LWP.ret ?_)
    refine Leads.le (σ' := ⟨[(2, Lp 2)], vB 140 501 (.val (fnV 73)) :: (2, some ⟨101, (rowL 8).map .val ++ [ptrF (cloF 8) 501], false⟩) :: [], X⟩) (Le.of (by exact ⟨rfl, trivial⟩) (by exact ⟨rfl, rfl, trivial⟩) (by exact rfl) (by exact rfl) (by repeat' (first | refine all_cons_true ?_ ?_ | rfl | exact bytes_inUse | exact vals_inUse | exact mid_inUse rfl))) ?_
    refine deed_shut1 (f := cloF 8) (op := 8) (fun Y _ _ _ _ h1 h2 => deed_two rfl h1 h2 (two_fn Y (fun Z x y hx hy => wQuo_do Z x y hx hy)) (fun u w _ _ => node_do (by decide) u w)) (Leads.done ?_)
    exact ⟨[(1000001, 501)], ⟨[_], ⟨⟨_, _, rfl, rfl, rfl, .inl ⟨AggT.h, rfl⟩⟩, trivial⟩, rfl⟩, (by repeat' (first | exact trivial | refine And.intro ⟨_, rfl, ?_⟩ ?_ | refine And.intro ⟨_, rfl⟩ ?_ | rfl | exact Box.ren_bytes _ _ _ _ | exact Box.ren_vals _ _ _ _ | exact Box.ren_mid rfl)), rfl, rfl⟩
  (refine rgN <| keq rfl rfl (r := false) (beq_eq_false_iff_ne.2 c8) <| kas rfl <| RunK.nil <| LWP.condF rfl ?_; refine LWP.seq ?_)
  by_cases c9 : op = 9
  · subst c9
    rw [(rw_fn (op := 9) (by decide)).1, (rw_fn (op := 9) (by decide)).2]
    (refine rgN <| keq rfl rfl (r := true) rfl <| kas rfl <| RunK.nil <| LWP.condT rfl ?_; refine LWP.seq <| rgN <| K.callMp [(1000001, 501)] (.sv (.one (ptrF 94 501))) [vB 140 501 (.val (fnV 74))] ((mA_ofTwo X 74)) rfl rfl (by exact trivial) rfl rfl rfl rfl rfl (by exact (.box rfl rfl .nil)) .plain <| K.build rfl rfl (by exact rfl) (by exact nl6 rfl rfl rfl rfl rfl rfl rfl) .plain ?_; refine K.storeAll rfl rfl rfl rfl rfl rfl .plain ?_; refine RunK.nil <| LWP.ret ?_)
    refine Leads.le (σ' := ⟨[(2, Lp 2)], vB 140 501 (.val (fnV 74)) :: (2, some ⟨101, (rowL 9).map .val ++ [ptrF (cloF 9) 501], false⟩) :: [], X⟩) (Le.of (by exact ⟨rfl, trivial⟩) (by exact ⟨rfl, rfl, trivial⟩) (by exact rfl) (by exact rfl) (by repeat' (first | refine all_cons_true ?_ ?_ | rfl | exact bytes_inUse | exact vals_inUse | exact mid_inUse rfl))) ?_
    refine deed_shut1 (f := cloF 9) (op := 9) (fun Y _ _ _ _ h1 h2 => deed_two rfl h1 h2 (two_fn Y (fun Z x y hx hy => wRem_do Z x y hx hy)) (fun u w _ _ => node_do (by decide) u w)) (Leads.done ?_)
    exact ⟨[(1000001, 501)], ⟨[_], ⟨⟨_, _, rfl, rfl, rfl, .inl ⟨AggT.h, rfl⟩⟩, trivial⟩, rfl⟩, (by repeat' (first | exact trivial | refine And.intro ⟨_, rfl, ?_⟩ ?_ | refine And.intro ⟨_, rfl⟩ ?_ | rfl | exact Box.ren_bytes _ _ _ _ | exact Box.ren_vals _ _ _ _ | exact Box.ren_mid rfl)), rfl, rfl⟩
  (refine rgN <| keq rfl rfl (r := false) (beq_eq_false_iff_ne.2 c9) <| kas rfl <| RunK.nil <| LWP.condF rfl ?_; refine LWP.seq ?_)
  by_cases c10 : op = 10
  · subst c10
    rw [(rw_fn (op := 10) (by decide)).1, (rw_fn (op := 10) (by decide)).2]
    (refine rgN <| keq rfl rfl (r := true) rfl <| kas rfl <| RunK.nil <| LWP.condT rfl ?_; refine LWP.seq <| rgN <| K.callMp [(1000001, 501)] (.sv (.one (ptrF 106 501))) [vB 140 501 (.val (fnV 71))] ((mA_withZero X 71)) rfl rfl (by exact trivial) rfl rfl rfl rfl rfl (by exact (.box rfl rfl .nil)) .plain <| K.callMp [(1000001, 502), (1000002, 501)] (.sv (.one (ptrF 105 502))) [vB 138 502 (ptrF 106 501), vB 140 501 (.val (fnV 71))] ((mB_ofOne X 106 71 140)) rfl rfl (by exact (And.intro ⟨_, rfl, rfl⟩ trivial)) (by exact (all_cons_true (all_cons_true rfl rfl) rfl)) rfl rfl rfl rfl (by exact (.box rfl rfl (.box rfl rfl .nil))) .plain <| K.build rfl rfl (by exact rfl) (by exact nl6 rfl rfl rfl rfl rfl rfl rfl) .plain ?_; refine K.storeAll rfl rfl rfl rfl rfl rfl .plain ?_; refine RunK.nil <| LWP.ret ?_)
    refine Leads.le (σ' := ⟨[(2, Lp 2)], vB 138 502 (ptrF 106 501) :: vB 140 501 (.val (fnV 71)) :: (2, some ⟨101, (rowL 10).map .val ++ [ptrF (cloF 10) 502], false⟩) :: [], X⟩) (Le.of (by exact ⟨rfl, trivial⟩) (by exact ⟨rfl, rfl, rfl, trivial⟩) (by exact rfl) (by exact rfl) (by repeat' (first | refine all_cons_true ?_ ?_ | rfl | exact bytes_inUse | exact vals_inUse | exact mid_inUse rfl))) ?_
    refine deed_shut2 (f := cloF 10) (op := 10) (fun Y _ _ _ _ _ _ _ _ h1 h2 h3 h4 => deed_one rfl h3 h4 (one_zero h1 h2 (two_fn Y (fun Z x y hx hy => wSub_do Z x y hx hy))) (fun u hu => node_neg hu)) rfl rfl rfl (Leads.done ?_)
    exact ⟨[(1000001, 502)], ⟨[_], ⟨⟨_, _, rfl, rfl, rfl, .inl ⟨AggT.h, rfl⟩⟩, trivial⟩, rfl⟩, (by repeat' (first | exact trivial | refine And.intro ⟨_, rfl, ?_⟩ ?_ | refine And.intro ⟨_, rfl⟩ ?_ | rfl | exact Box.ren_bytes _ _ _ _ | exact Box.ren_vals _ _ _ _ | exact Box.ren_mid rfl)), rfl, rfl⟩
  (refine rgN <| keq rfl rfl (r := false) (beq_eq_false_iff_ne.2 c10) <| kas rfl <| RunK.nil <| LWP.condF rfl ?_; refine LWP.seq ?_)
  by_cases c11 : op = 11
  · subst c11
    rw [(rw_fn (op := 11) (by decide)).1, (rw_fn (op := 11) (by decide)).2]
    (refine rgN <| keq rfl rfl (r := true) rfl <| kas rfl <| RunK.nil <| LWP.condT rfl ?_; refine LWP.seq <| rgN <| K.callMp [(1000001, 501)] (.sv (.one (ptrF 107 501))) [vB 140 501 (.val (fnV 78))] ((mA_chosen X 78)) rfl rfl (by exact trivial) rfl rfl rfl rfl rfl (by exact (.box rfl rfl .nil)) .plain <| K.callMp [(1000001, 502), (1000002, 501)] (.sv (.one (ptrF 94 502))) [vB 140 502 (ptrF 107 501), vB 140 501 (.val (fnV 78))] ((mB_ofTwo X 107 78 140)) rfl rfl (by exact (And.intro ⟨_, rfl, rfl⟩ trivial)) (by exact (all_cons_true (all_cons_true rfl rfl) rfl)) rfl rfl rfl rfl (by exact (.box rfl rfl (.box rfl rfl .nil))) .plain <| K.build rfl rfl (by exact rfl) (by exact nl6 rfl rfl rfl rfl rfl rfl rfl) .plain ?_; refine K.storeAll rfl rfl rfl rfl rfl rfl .plain ?_; refine RunK.nil <| LWP.ret ?_)
    refine Leads.le (σ' := ⟨[(2, Lp 2)], vB 140 502 (ptrF 107 501) :: vB 140 501 (.val (fnV 78)) :: (2, some ⟨101, (rowL 11).map .val ++ [ptrF (cloF 11) 502], false⟩) :: [], X⟩) (Le.of (by exact ⟨rfl, trivial⟩) (by exact ⟨rfl, rfl, rfl, trivial⟩) (by exact rfl) (by exact rfl) (by repeat' (first | refine all_cons_true ?_ ?_ | rfl | exact bytes_inUse | exact vals_inUse | exact mid_inUse rfl))) ?_
    refine deed_shut2 (f := cloF 11) (op := 11) (fun Y _ _ _ _ _ _ _ _ h1 h2 h3 h4 => deed_two rfl h3 h4 (two_chosen h1 h2 (two_fn Y (fun Z x y hx hy => tLess Z x y hx hy)) (fun _ _ _ h => less_ok h) (fun _ _ _ h => less_err h)) (fun u w hu hw => node_least hu hw)) rfl rfl rfl (Leads.done ?_)
    exact ⟨[(1000001, 502)], ⟨[_], ⟨⟨_, _, rfl, rfl, rfl, .inl ⟨AggT.h, rfl⟩⟩, trivial⟩, rfl⟩, (by repeat' (first | exact trivial | refine And.intro ⟨_, rfl, ?_⟩ ?_ | refine And.intro ⟨_, rfl⟩ ?_ | rfl | exact Box.ren_bytes _ _ _ _ | exact Box.ren_vals _ _ _ _ | exact Box.ren_mid rfl)), rfl, rfl⟩
  (refine rgN <| keq rfl rfl (r := false) (beq_eq_false_iff_ne.2 c11) <| kas rfl <| RunK.nil <| LWP.condF rfl ?_; refine LWP.seq ?_)
  by_cases c12 : op = 12
  · subst c12
    rw [(rw_fn (op := 12) (by decide)).1, (rw_fn (op := 12) (by decide)).2]
    (refine rgN <| keq rfl rfl (r := true) rfl <| kas rfl <| RunK.nil <| LWP.condT rfl ?_; refine LWP.seq <| rgN <| K.callMp [(1000001, 501)] (.sv (.one (ptrF 110 501))) [vB 140 501 (.val (fnV 78))] ((mA_swapped X 78)) rfl rfl (by exact trivial) rfl rfl rfl rfl rfl (by exact (.box rfl rfl .nil)) .plain <| K.callMp [(1000001, 502), (1000002, 501)] (.sv (.one (ptrF 107 502))) [vB 140 502 (ptrF 110 501), vB 140 501 (.val (fnV 78))] ((mB_chosen X 110 78 140)) rfl rfl (by exact (And.intro ⟨_, rfl, rfl⟩ trivial)) (by exact (all_cons_true (all_cons_true rfl rfl) rfl)) rfl rfl rfl rfl (by exact (.box rfl rfl (.box rfl rfl .nil))) .plain <| K.callMp [(1000001, 503), (1000002, 502), (1000003, 501)] (.sv (.one (ptrF 94 503))) [vB 140 503 (ptrF 107 502), vB 140 502 (ptrF 110 501), vB 140 501 (.val (fnV 78))] ((mC_ofTwo X 107 110 78 140)) rfl rfl (by exact (And.intro ⟨_, rfl, rfl⟩ (And.intro ⟨_, rfl, rfl⟩ trivial))) (by exact (all_cons_true (all_cons_true rfl rfl) (all_cons_true (all_cons_true rfl rfl) rfl))) rfl rfl rfl rfl (by exact (.box rfl rfl (.box rfl rfl (.box rfl rfl .nil)))) .plain <| K.build rfl rfl (by exact rfl) (by exact nl6 rfl rfl rfl rfl rfl rfl rfl) .plain ?_; refine K.storeAll rfl rfl rfl rfl rfl rfl .plain ?_; refine RunK.nil <| LWP.ret ?_)
    refine Leads.le (σ' := ⟨[(2, Lp 2)], vB 140 503 (ptrF 107 502) :: vB 140 502 (ptrF 110 501) :: vB 140 501 (.val (fnV 78)) :: (2, some ⟨101, (rowL 12).map .val ++ [ptrF (cloF 12) 503], false⟩) :: [], X⟩) (Le.of (by exact ⟨rfl, trivial⟩) (by exact ⟨rfl, rfl, rfl, rfl, trivial⟩) (by exact rfl) (by exact rfl) (by repeat' (first | refine all_cons_true ?_ ?_ | rfl | exact bytes_inUse | exact vals_inUse | exact mid_inUse rfl))) ?_
    refine deed_shut3 (f := cloF 12) (op := 12) (fun Y _ _ _ _ _ _ _ _ _ _ _ _ h1 h2 h3 h4 h5 h6 => deed_two rfl h5 h6 (two_chosen h3 h4 (two_swapped h1 h2 (two_fn Y (fun Z x y hx hy => tLess Z x y hx hy))) (fun _ _ _ h => less_ok h) (fun _ _ _ h => less_err h)) (fun u w hu hw => node_great hu hw)) rfl rfl rfl rfl rfl rfl rfl (Leads.done ?_)
    exact ⟨[(1000001, 503)], ⟨[_], ⟨⟨_, _, rfl, rfl, rfl, .inl ⟨AggT.h, rfl⟩⟩, trivial⟩, rfl⟩, (by repeat' (first | exact trivial | refine And.intro ⟨_, rfl, ?_⟩ ?_ | refine And.intro ⟨_, rfl⟩ ?_ | rfl | exact Box.ren_bytes _ _ _ _ | exact Box.ren_vals _ _ _ _ | exact Box.ren_mid rfl)), rfl, rfl⟩
  (refine rgN <| keq rfl rfl (r := false) (beq_eq_false_iff_ne.2 c12) <| kas rfl <| RunK.nil <| LWP.condF rfl ?_; refine LWP.seq ?_)
  by_cases c13 : op = 13
  · subst c13
    rw [(rw_fn (op := 13) (by decide)).1, (rw_fn (op := 13) (by decide)).2]
    (refine rgN <| keq rfl rfl (r := true) rfl <| kas rfl <| RunK.nil <| LWP.condT rfl ?_; refine LWP.seq <| rgN <| K.callMp [(1000001, 501)] (.sv (.one (ptrF 94 501))) [vB 140 501 (.val (fnV 80))] ((mA_ofTwo X 80)) rfl rfl (by exact trivial) rfl rfl rfl rfl rfl (by exact (.box rfl rfl .nil)) .plain <| K.build rfl rfl (by exact rfl) (by exact nl6 rfl rfl rfl rfl rfl rfl rfl) .plain ?_; refine K.storeAll rfl rfl rfl rfl rfl rfl .plain ?_; refine RunK.nil <| LWP.ret ?_)
    refine Leads.le (σ' := ⟨[(2, Lp 2)], vB 140 501 (.val (fnV 80)) :: (2, some ⟨101, (rowL 13).map .val ++ [ptrF (cloF 13) 501], false⟩) :: [], X⟩) (Le.of (by exact ⟨rfl, trivial⟩) (by exact ⟨rfl, rfl, trivial⟩) (by exact rfl) (by exact rfl) (by repeat' (first | refine all_cons_true ?_ ?_ | rfl | exact bytes_inUse | exact vals_inUse | exact mid_inUse rfl))) ?_
    refine deed_shut1 (f := cloF 13) (op := 13) (fun Y _ _ _ _ h1 h2 => deed_two rfl h1 h2 (two_fn Y (fun Z x y hx hy => tSame Z x y hx hy)) (fun u w _ _ => node_same u w)) (Leads.done ?_)
    exact ⟨[(1000001, 501)], ⟨[_], ⟨⟨_, _, rfl, rfl, rfl, .inl ⟨AggT.h, rfl⟩⟩, trivial⟩, rfl⟩, (by repeat' (first | exact trivial | refine And.intro ⟨_, rfl, ?_⟩ ?_ | refine And.intro ⟨_, rfl⟩ ?_ | rfl | exact Box.ren_bytes _ _ _ _ | exact Box.ren_vals _ _ _ _ | exact Box.ren_mid rfl)), rfl, rfl⟩
  (refine rgN <| keq rfl rfl (r := false) (beq_eq_false_iff_ne.2 c13) <| kas rfl <| RunK.nil <| LWP.condF rfl ?_; refine LWP.seq ?_)
  by_cases c14 : op = 14
  · subst c14
    rw [(rw_fn (op := 14) (by decide)).1, (rw_fn (op := 14) (by decide)).2]
    (refine rgN <| keq rfl rfl (r := true) rfl <| kas rfl <| RunK.nil <| LWP.condT rfl ?_; refine LWP.seq <| rgN <| K.callMp [(1000001, 501)] (.sv (.one (ptrF 94 501))) [vB 140 501 (.val (fnV 78))] ((mA_ofTwo X 78)) rfl rfl (by exact trivial) rfl rfl rfl rfl rfl (by exact (.box rfl rfl .nil)) .plain <| K.build rfl rfl (by exact rfl) (by exact nl6 rfl rfl rfl rfl rfl rfl rfl) .plain ?_; refine K.storeAll rfl rfl rfl rfl rfl rfl .plain ?_; refine RunK.nil <| LWP.ret ?_)
    refine Leads.le (σ' := ⟨[(2, Lp 2)], vB 140 501 (.val (fnV 78)) :: (2, some ⟨101, (rowL 14).map .val ++ [ptrF (cloF 14) 501], false⟩) :: [], X⟩) (Le.of (by exact ⟨rfl, trivial⟩) (by exact ⟨rfl, rfl, trivial⟩) (by exact rfl) (by exact rfl) (by repeat' (first | refine all_cons_true ?_ ?_ | rfl | exact bytes_inUse | exact vals_inUse | exact mid_inUse rfl))) ?_
    refine deed_shut1 (f := cloF 14) (op := 14) (fun Y _ _ _ _ h1 h2 => deed_two rfl h1 h2 (two_fn Y (fun Z x y hx hy => tLess Z x y hx hy)) (fun u w _ _ => node_less u w)) (Leads.done ?_)
    exact ⟨[(1000001, 501)], ⟨[_], ⟨⟨_, _, rfl, rfl, rfl, .inl ⟨AggT.h, rfl⟩⟩, trivial⟩, rfl⟩, (by repeat' (first | exact trivial | refine And.intro ⟨_, rfl, ?_⟩ ?_ | refine And.intro ⟨_, rfl⟩ ?_ | rfl | exact Box.ren_bytes _ _ _ _ | exact Box.ren_vals _ _ _ _ | exact Box.ren_mid rfl)), rfl, rfl⟩
  (refine rgN <| keq rfl rfl (r := false) (beq_eq_false_iff_ne.2 c14) <| kas rfl <| RunK.nil <| LWP.condF rfl ?_; refine LWP.seq ?_)
  by_cases c15 : op = 15
  · subst c15
    rw [(rw_fn (op := 15) (by decide)).1, (rw_fn (op := 15) (by decide)).2]
    (refine rgN <| keq rfl rfl (r := true) rfl <| kas rfl <| RunK.nil <| LWP.condT rfl ?_; refine LWP.seq <| rgN <| K.callMp [(1000001, 501)] (.sv (.one (ptrF 106 501))) [vB 140 501 (.val (fnV 80))] ((mA_withZero X 80)) rfl rfl (by exact trivial) rfl rfl rfl rfl rfl (by exact (.box rfl rfl .nil)) .plain <| K.callMp [(1000001, 502), (1000002, 501)] (.sv (.one (ptrF 105 502))) [vB 138 502 (ptrF 106 501), vB 140 501 (.val (fnV 80))] ((mB_ofOne X 106 80 140)) rfl rfl (by exact (And.intro ⟨_, rfl, rfl⟩ trivial)) (by exact (all_cons_true (all_cons_true rfl rfl) rfl)) rfl rfl rfl rfl (by exact (.box rfl rfl (.box rfl rfl .nil))) .plain <| K.build rfl rfl (by exact rfl) (by exact nl6 rfl rfl rfl rfl rfl rfl rfl) .plain ?_; refine K.storeAll rfl rfl rfl rfl rfl rfl .plain ?_; refine RunK.nil <| LWP.ret ?_)
    refine Leads.le (σ' := ⟨[(2, Lp 2)], vB 138 502 (ptrF 106 501) :: vB 140 501 (.val (fnV 80)) :: (2, some ⟨101, (rowL 15).map .val ++ [ptrF (cloF 15) 502], false⟩) :: [], X⟩) (Le.of (by exact ⟨rfl, trivial⟩) (by exact ⟨rfl, rfl, rfl, trivial⟩) (by exact rfl) (by exact rfl) (by repeat' (first | refine all_cons_true ?_ ?_ | rfl | exact bytes_inUse | exact vals_inUse | exact mid_inUse rfl))) ?_
    refine deed_shut2 (f := cloF 15) (op := 15) (fun Y _ _ _ _ _ _ _ _ h1 h2 h3 h4 => deed_one rfl h3 h4 (one_zero h1 h2 (two_fn Y (fun Z x y hx hy => tSame Z x y hx hy))) (fun u hu => node_not u)) rfl rfl rfl (Leads.done ?_)
    exact ⟨[(1000001, 502)], ⟨[_], ⟨⟨_, _, rfl, rfl, rfl, .inl ⟨AggT.h, rfl⟩⟩, trivial⟩, rfl⟩, (by repeat' (first | exact trivial | refine And.intro ⟨_, rfl, ?_⟩ ?_ | refine And.intro ⟨_, rfl⟩ ?_ | rfl | exact Box.ren_bytes _ _ _ _ | exact Box.ren_vals _ _ _ _ | exact Box.ren_mid rfl)), rfl, rfl⟩
  (refine rgN <| keq rfl rfl (r := false) (beq_eq_false_iff_ne.2 c15) <| kas rfl <| RunK.nil <| LWP.condF rfl ?_; refine LWP.seq ?_)
  by_cases c16 : op = 16
  · subst c16
    rw [(rw_fn (op := 16) (by decide)).1, (rw_fn (op := 16) (by decide)).2]
    (refine rgN <| keq rfl rfl (r := true) rfl <| kas rfl <| RunK.nil <| LWP.condT rfl ?_; refine LWP.seq <| rgN <| K.callMp [(1000001, 501)] (.sv (.one (ptrF 111 501))) [vB 165 501 (.val (fnV 82))] ((mA_ofThree X 82)) rfl rfl (by exact trivial) rfl rfl rfl rfl rfl (by exact (.box rfl rfl .nil)) .plain <| K.build rfl rfl (by exact rfl) (by exact nl6 rfl rfl rfl rfl rfl rfl rfl) .plain ?_; refine K.storeAll rfl rfl rfl rfl rfl rfl .plain ?_; refine RunK.nil <| LWP.ret ?_)
    refine Leads.le (σ' := ⟨[(2, Lp 2)], vB 165 501 (.val (fnV 82)) :: (2, some ⟨101, (rowL 16).map .val ++ [ptrF (cloF 16) 501], false⟩) :: [], X⟩) (Le.of (by exact ⟨rfl, trivial⟩) (by exact ⟨rfl, rfl, trivial⟩) (by exact rfl) (by exact rfl) (by repeat' (first | refine all_cons_true ?_ ?_ | rfl | exact bytes_inUse | exact vals_inUse | exact mid_inUse rfl))) ?_
    refine deed_shut1 (f := cloF 16) (op := 16) (fun Y _ _ _ _ h1 h2 => deed_three rfl h1 h2 (three_fn Y (fun Z x y z hx hy hz => tPick Z x y z hx)) (fun u w z _ _ _ => rfl)) (Leads.done ?_)
    exact ⟨[(1000001, 501)], ⟨[_], ⟨⟨_, _, rfl, rfl, rfl, .inl ⟨AggT.h, rfl⟩⟩, trivial⟩, rfl⟩, (by repeat' (first | exact trivial | refine And.intro ⟨_, rfl, ?_⟩ ?_ | refine And.intro ⟨_, rfl⟩ ?_ | rfl | exact Box.ren_bytes _ _ _ _ | exact Box.ren_vals _ _ _ _ | exact Box.ren_mid rfl)), rfl, rfl⟩
  (refine rgN <| keq rfl rfl (r := false) (beq_eq_false_iff_ne.2 c16) <| kas rfl <| RunK.nil <| LWP.condF rfl ?_; refine LWP.seq ?_)
  by_cases c17 : op = 17
  · subst c17
    rw [(rw_fn (op := 17) (by decide)).1, (rw_fn (op := 17) (by decide)).2]
    (refine rgN <| keq rfl rfl (r := true) rfl <| kas rfl <| RunK.nil <| LWP.condT rfl ?_; refine LWP.seq <| rgN <| K.callMp [(1000001, 501)] (.sv (.one (ptrF 94 501))) [vB 140 501 (.val (fnV 83))] ((mA_ofTwo X 83)) rfl rfl (by exact trivial) rfl rfl rfl rfl rfl (by exact (.box rfl rfl .nil)) .plain <| K.build rfl rfl (by exact rfl) (by exact nl6 rfl rfl rfl rfl rfl rfl rfl) .plain ?_; refine K.storeAll rfl rfl rfl rfl rfl rfl .plain ?_; refine RunK.nil <| LWP.ret ?_)
    refine Leads.le (σ' := ⟨[(2, Lp 2)], vB 140 501 (.val (fnV 83)) :: (2, some ⟨101, (rowL 17).map .val ++ [ptrF (cloF 17) 501], false⟩) :: [], X⟩) (Le.of (by exact ⟨rfl, trivial⟩) (by exact ⟨rfl, rfl, trivial⟩) (by exact rfl) (by exact rfl) (by repeat' (first | refine all_cons_true ?_ ?_ | rfl | exact bytes_inUse | exact vals_inUse | exact mid_inUse rfl))) ?_
    refine deed_shut1 (f := cloF 17) (op := 17) (fun Y _ _ _ _ h1 h2 => deed_two rfl h1 h2 (two_fn Y (fun Z x y hx hy => tNeed Z x y hy)) (fun u w _ _ => node_need u w)) (Leads.done ?_)
    exact ⟨[(1000001, 501)], ⟨[_], ⟨⟨_, _, rfl, rfl, rfl, .inl ⟨AggT.h, rfl⟩⟩, trivial⟩, rfl⟩, (by repeat' (first | exact trivial | refine And.intro ⟨_, rfl, ?_⟩ ?_ | refine And.intro ⟨_, rfl⟩ ?_ | rfl | exact Box.ren_bytes _ _ _ _ | exact Box.ren_vals _ _ _ _ | exact Box.ren_mid rfl)), rfl, rfl⟩
  (refine rgN <| keq rfl rfl (r := false) (beq_eq_false_iff_ne.2 c17) <| kas rfl <| RunK.nil <| LWP.condF rfl ?_; refine LWP.skip ?_; refine LWP.seq ?_)
  have hbad : op < 1 ∨ 17 < op := by omega
  rw [(rw_no (op := op) (by omega)).1, (rw_no (op := op) (by omega)).2]
  unfold LRow
  rw [rowL_bad hbad, show leafV op = .nilFunc by unfold leafV; rw [if_neg c1, if_neg c2, if_neg c3, if_neg c4]]
  (refine rgN <| K.build rfl rfl (by exact rfl) (by exact nl6 rfl rfl rfl rfl rfl rfl rfl) .plain ?_; refine K.storeAll rfl rfl rfl rfl rfl rfl .plain ?_; refine RunK.nil <| LWP.ret ?_)
  exact Leads.done ⟨[], ⟨[_], ⟨⟨_, _, rfl, rfl, rfl, .inl ⟨AggT.h, rfl⟩⟩, trivial⟩, rfl⟩, trivial, rfl, rfl⟩
theorem rowOf_fn (op : Int) (h : 5 ≤ op ∧ op ≤ 17) : MSpec Tryz.prog X 50 [Ln .i64 op] [] (LRow op (ptrF (cloF op) 1000001)) [dB 1000001 op] := by
  have := rowOf_all X op
  rw [(rw_fn h).1, (rw_fn h).2] at this
  exact this
theorem rowOf_leaf (op : Int) (h : ¬ (5 ≤ op ∧ op ≤ 17)) : PSpec Tryz.prog X 50 [Ln .i64 op] (LRow op (.val (leafV op))) := by
  have := rowOf_all X op
  rw [(rw_no h).1, (rw_no h).2] at this
  exact this.plain
theorem rowOf_1 : PSpec Tryz.prog X 50 [Ln .i64 1] (LRow 1 (.val (fnV 65))) := rowOf_leaf X 1 (by decide)
theorem rowOf_2 : PSpec Tryz.prog X 50 [Ln .i64 2] (LRow 2 (.val (fnV 66))) := rowOf_leaf X 2 (by decide)
theorem rowOf_3 : PSpec Tryz.prog X 50 [Ln .i64 3] (LRow 3 (.val (fnV 67))) := rowOf_leaf X 3 (by decide)
theorem rowOf_4 : PSpec Tryz.prog X 50 [Ln .i64 4] (LRow 4 (.val (fnV 68))) := rowOf_leaf X 4 (by decide)
theorem rowOf_no (op : Int) (h : op < 1 ∨ 17 < op) : PSpec Tryz.prog X 50 [Ln .i64 op] (LRow op (.val .nilFunc)) := by
  have := rowOf_leaf X op (by omega)
  rw [show leafV op = .nilFunc by unfold leafV; rw [if_neg (by omega), if_neg (by omega), if_neg (by omega), if_neg (by omega)]] at this
  exact this
end Go.Proofs.YtnfbccfghgmfiaaGreat
end
section
namespace Go.Proofs.YtnfbccfghgmfiaaGreat
open Go Go.Lg Go.Lg.Fml Go.Lg.Fld Go.Lg.Arith
set_option maxRecDepth 100000
variable (X : Nat → Option Obj)
theorem tSmall (n : Int) : PSpec Tryz.prog X 84 [Ln .i64 n] (Lb (decide (0 ≤ n) && decide (n ≤ 7))) := by
  by_cases h : 0 ≤ n
  · rw [decide_eq_true h, Bool.true_and]
    refine PSpec.intro Tryz.func84 rfl (by kernel_rfl) rfl rfl ?_
    intro C
    (refine LWP.seq <| rgN <| kas rfl <| RunK.nil <| LWP.seq <| rgN <| kmv rfl <| K.geq rfl rfl (r := true) (decide_eq_true h) .plain <| kmv rfl <| gmv rfl rfl rfl <| K.leq rfl rfl rfl (.taken rfl rfl) ?_; refine kpt rfl rfl <| kas rfl <| RunK.nil <| LWP.ret ?_)
    exact ⟨[_], ⟨rfl, trivial⟩, rfl⟩
  · rw [decide_eq_false h, Bool.false_and]
    refine PSpec.intro Tryz.func84 rfl (by kernel_rfl) rfl rfl ?_
    intro C
    (refine LWP.seq <| rgN <| kas rfl <| RunK.nil <| LWP.seq <| rgN <| kmv rfl <| K.geq rfl rfl (r := false) (decide_eq_false h) .plain <| kmv rfl <| RunK.passed rfl rfl rfl <| RunK.passed rfl rfl rfl <| kpf rfl rfl <| kas rfl <| RunK.nil ?_; refine LWP.ret ?_)
    exact ⟨[_], ⟨rfl, trivial⟩, rfl⟩
def bndI (x : Ins) : Bool := (decide (0 ≤ x.a) && decide (x.a ≤ 7)) && ((decide (0 ≤ x.b) && decide (x.b ≤ 7)) && gd x.k)
theorem okI_bnd (x : Ins) : okI x = ((decide (1 ≤ x.op) && decide (x.op ≤ 17)) && bndI x) := by
  unfold okI bndI
  cases gd x.k <;> cases (decide (0 ≤ x.a) && decide (x.a ≤ 7)) <;> cases (decide (0 ≤ x.b) && decide (x.b ≤ 7)) <;> rfl
theorem tBounded (x : Ins) (hx : smallI x) (r : Bool) (hr : bndI x = r) : PSpec Tryz.prog X 51 [LIn x] (Lb r) := by
  subst hr
  unfold bndI
  have hA := tSmall X x.a
  have hB := tSmall X x.b
  have hG := tForm X x.k hx.2.2.2 _ rfl
  generalize (decide (0 ≤ x.a) && decide (x.a ≤ 7)) = A at *
  generalize (decide (0 ≤ x.b) && decide (x.b ≤ 7)) = B at *
  generalize gd x.k = G at *
  cases A with
  | false =>
    refine PSpec.intro Tryz.func51 rfl (by kernel_rfl) rfl rfl ?_
    intro C
    (refine LWP.seq <| rgN <| K.box rfl rfl rfl .plain <| kas rfl <| RunK.nil <| LWP.seq <| rgN <| kfa rfl rfl ?_; refine kl1 rfl rfl rfl <| kca rfl rfl hA <| kmv rfl <| RunK.passed rfl rfl rfl <| RunK.passed rfl rfl rfl <| RunK.passed rfl rfl rfl <| kpf rfl rfl <| kmv rfl <| RunK.passed rfl rfl rfl <| RunK.passed rfl rfl rfl <| RunK.passed rfl rfl rfl <| kpf rfl rfl <| kas rfl <| RunK.nil ?_; refine LWP.ret ?_)
    exact ⟨[_], ⟨rfl, trivial⟩, rfl⟩
  | true =>
  cases B with
  | false =>
    refine PSpec.intro Tryz.func51 rfl (by kernel_rfl) rfl rfl ?_
    intro C
    (refine LWP.seq <| rgN <| K.box rfl rfl rfl .plain <| kas rfl <| RunK.nil <| LWP.seq <| rgN <| kfa rfl rfl ?_; refine kl1 rfl rfl rfl <| kca rfl rfl hA <| kmv rfl <| K.fieldAddr rfl rfl (.taken rfl rfl) ?_; refine K.loadOne rfl rfl rfl (.taken rfl rfl) ?_; refine gca rfl rfl hB rfl rfl <| kpt rfl rfl <| kmv rfl <| RunK.passed rfl rfl rfl <| RunK.passed rfl rfl rfl <| RunK.passed rfl rfl rfl <| kpf rfl rfl <| kas rfl <| RunK.nil <| LWP.ret ?_)
    exact ⟨[_], ⟨rfl, trivial⟩, rfl⟩
  | true =>
    refine PSpec.intro Tryz.func51 rfl (by kernel_rfl) rfl rfl ?_
    intro C
    (refine LWP.seq <| rgN <| K.box rfl rfl rfl .plain <| kas rfl <| RunK.nil <| LWP.seq <| rgN <| kfa rfl rfl ?_; refine kl1 rfl rfl rfl <| kca rfl rfl hA <| kmv rfl <| K.fieldAddr rfl rfl (.taken rfl rfl) ?_; refine K.loadOne rfl rfl rfl (.taken rfl rfl) ?_; refine gca rfl rfl hB rfl rfl <| kpt rfl rfl <| kmv rfl <| K.fieldAddr rfl rfl (.taken rfl rfl) ?_; refine K.loadPart rfl rfl rfl (by exact nl3 rfl rfl rfl rfl) (.taken rfl rfl) ?_; refine gca rfl rfl (hG) rfl rfl <| kpt rfl rfl <| kas rfl <| RunK.nil <| LWP.ret ?_)
    exact ⟨[_], ⟨rfl, trivial⟩, rfl⟩
def rowVs (p : Int × Value) : List Value := rowL p.1 ++ [p.2]
def rwsV (q : List (Int × Value)) : List Value := (q.map rowVs).flatten
theorem rowVs_len (p : Int × Value) : (rowVs p).length = 6 := rfl
theorem rwsV_len (q : List (Int × Value)) : (rwsV q).length = q.length * 6 := by
  unfold rwsV
  induction q with
  | nil => rfl
  | cons x t ih => rw [List.map_cons, List.flatten_cons, List.length_append, ih, rowVs_len, List.length_cons]; omega
theorem rwsV_snoc (q : List (Int × Value)) (p : Int × Value) : rwsV (q ++ [p]) = rwsV q ++ rowVs p := by
  unfold rwsV
  rw [List.map_append, List.flatten_append]
  simp
def zeR (k : Nat) : List Value := (List.replicate k [Value.string ⟨#[]⟩, .int .i64 0, .bool false, .bool false, .bool false, .nilFunc]).flatten
theorem zeR_succ (k : Nat) : zeR (k + 1) = [Value.string ⟨#[]⟩, .int .i64 0, .bool false, .bool false, .bool false, .nilFunc] ++ zeR k := by unfold zeR; rw [List.replicate_succ, List.flatten_cons]
theorem zeR_len (k : Nat) : (zeR k).length = k * 6 := by
  induction k with
  | zero => rfl
  | succ k ih => rw [zeR_succ, List.length_append, ih]; simp; omega
def rowsR (l : List Ins) : Rsc := ⟨fun ρ H => ∃ (q : List (Int × Value)) (fr : Nat × Nat), H ρ.1 = some (.cells (rwsV q).toArray 101 fr) ∧ ρ.2 = (rwsV q).length ∧ q.map (·.1) = l.map Ins.op ∧ ∀ p ∈ q, DeedV H p.2 p.1⟩
structure RowsOK (Y : Nat → Option Obj) (ad : Option Addr) (l : List Ins) : Prop where
  ex : ∃ q : List (Int × Value), Go.Lg.RowsIn Y ad 6 (q.map rowVs) ∧ q.map (·.1) = l.map Ins.op ∧ ∀ p ∈ q, DeedV Y p.2 p.1
theorem RowsOK.mono {Y Z : Nat → Option Obj} (h : MoreM Y Z) {ad : Option Addr} {l : List Ins} (hr : RowsOK Y ad l) : RowsOK Z ad l := by
  obtain ⟨q, h1, h2, h3⟩ := hr.ex
  exact ⟨q, h1.mono h, h2, fun p hp => (h3 p hp).mono h⟩
theorem rows_fix {l : List Ins} {ρ : Nat × Nat} {H Y : Nat → Option Obj} (h : (rowsR l).holds ρ H) (hY : MoreM H Y) : RowsOK Y (some ⟨ρ.1, 0, none⟩) l := by
  obtain ⟨q, fr, h1, h2, h3, h4⟩ := h
  refine ⟨q, rows_in (hY _ _ h1) (fun r hr => by obtain ⟨x, _, rfl⟩ := List.mem_map.1 hr; rfl) ⟨[], by rw [List.append_nil]; rfl⟩, h3, fun p hp => (h4 p hp).mono hY⟩
theorem RowsOK.at {Y : Nat → Option Obj} {ad : Option Addr} {l : List Ins} (h : RowsOK Y ad l) {i : Nat} {x : Ins} (hx : l[i]? = some x) :
    ∃ (blk off : Nat) (arr : Array Value) (el : TypeId) (fr : Nat × Nat) (v : Value), ad = some ⟨blk, off, none⟩ ∧ Y blk = some (.cells arr el fr) ∧ off + i * 6 + 6 ≤ arr.size ∧ ((arr.toList.drop (off + i * 6)).take 6).map CV.val = (rowVs (x.op, v)).map CV.val ∧ DeedV Y v x.op := by
  obtain ⟨q, h1, h2, h3⟩ := h.ex
  have hq : (q.map (·.1))[i]? = some x.op := by rw [h2, List.getElem?_map, hx]; rfl
  rw [List.getElem?_map] at hq
  cases hp : q[i]? with
  | none => rw [hp] at hq; cases hq
  | some p =>
    rw [hp] at hq
    have hq : p.1 = x.op := by simpa using hq
    obtain ⟨blk, off, arr, el, fr, e1, e2, e3, e4⟩ := h1 i (rowVs p) (by rw [List.getElem?_map, hp]; rfl)
    have h5 := h3 p (List.mem_of_getElem? hp)
    obtain ⟨o, v⟩ := p
    have hq : o = x.op := hq
    subst hq
    exact ⟨blk, off, arr, el, fr, v, e1, e2, e3, by rw [e4], h5⟩
def rsR (l : List Ins) : LV := if chkX l = 0 then .tup [.one (.slc 1000001 0 l.length 6), Sn .i64 0] else .tup [Vnil, Sn .i64 (chkX l)]
def rsBx (l : List Ins) : List (Nat × Option Box) := if chkX l = 0 then [(1000001, some ⟨0, [], .res (rowsR l)⟩)] else []
theorem rs_ok {l : List Ins} (h : chkX l = 0) : rsR l = .tup [.one (.slc 1000001 0 l.length 6), Sn .i64 0] ∧ rsBx l = [(1000001, some ⟨0, [], .res (rowsR l)⟩)] := ⟨if_pos h, if_pos h⟩
theorem rs_no {l : List Ins} (h : chkX l ≠ 0) : rsR l = .tup [Vnil, Sn .i64 (chkX l)] ∧ rsBx l = [] := ⟨if_neg h, if_neg h⟩
theorem rsBx_use (l : List Ins) : ((rsBx l).all fun p => match p.2 with | some b => b.cells.all (CV.inUse (rsBx l)) | none => true) = true := by
  by_cases h : chkX l = 0
  · rw [(rs_ok h).2]; rfl
  · rw [(rs_no h).2]; rfl
theorem rsR_use (l : List Ins) : LV.inUse (rsBx l) (rsR l) = true := by
  by_cases h : chkX l = 0
  · rw [(rs_ok h).1, (rs_ok h).2]; rfl
  · rw [(rs_no h).1, (rs_no h).2]; rfl
theorem joinM_assoc (X H G : Nat → Option Obj) : joinM (joinM X H) G = joinM X (joinM H G) := by
  funext b
  unfold joinM
  cases G b <;> rfl
theorem owned_join {C : Ctx} {X H G : Nat → Option Obj} (h : OwnedM C X H) (h' : OwnedM C (joinM X H) G) : OwnedM C X (joinM H G) ∧ MoreM H (joinM H G) ∧ MoreM G (joinM H G) := by
  have hn : ∀ b o, G b = some o → H b = none ∧ X b = none := fun b o hb => joinM_none (h'.own b o hb).2.2
  refine ⟨⟨fun b o hb => ?_⟩, fun b o hb => ?_, fun b o hb => joinM_in hb⟩
  · cases hg : G b with
    | some o' =>
      rw [joinM_in hg] at hb
      cases hb
      obtain ⟨h1, h2, _⟩ := h'.own b o hg
      exact ⟨h1, h2, (hn b o hg).2⟩
    | none => rw [joinM_out hg] at hb; exact h.own b o hb
  · cases hg : G b with
    | some o' => rw [(hn b o' hg).1] at hb; cases hb
    | none => rw [joinM_out hg]; exact hb
abbrev rwSt (ad : Option Addr) (n cap i : Nat) (d : Nat) (cells : List Value) (ms : List (Nat × LV)) (mb : List (Nat × Option Box)) (Y : Nat → Option Obj) : St :=
  ⟨ms ++ [(0, Lx ad n cap), (4, .sv (.one (.slc 500 0 n 6))), (5, Ln .i64 (d : Nat)), (15, Lx ad n cap), (16, Ln .i64 (n : Nat)), (17, Ln .i64 (i : Nat))], mb ++ [(500, some ⟨101, cells.map .val, false⟩)], Y⟩
abbrev rdB8 (x : Ins) (c : CV) : List (Nat × Option Box) := [(7, some ⟨66, (insV x).map .val, false⟩), (8, some ⟨101, (rowL x.op).map .val ++ [c], false⟩)]
set_option maxHeartbeats 12800000 in
theorem tRowsOf (l : List Ins) (ad : Option Addr) (cap : Nat) (hin : InsIn X ad l) (hbig : l.length < 1152921504606846976) : MSpec Tryz.prog X 34 [Lx ad l.length cap] [] (rsR l) (rsBx l) := by
  refine MSpec.intro Tryz.func34 rfl (by kernel_rfl) rfl (rsR_use l) (rsBx_use l) rfl rfl ?_
  intro C
  by_cases h64 : 64 < l.length
  · have hc : chkX l = 5 := if_pos h64
    obtain ⟨q1, q2⟩ := rs_no (l := l) (by rw [hc]; decide)
    rw [q1, q2, hc]
    (refine LWP.seq <| rgN <| kas rfl <| kas rfl <| RunK.nil <| LWP.seq <| LWP.seq <| rgN <| kmv rfl <| K.lenX rfl SliceT.h rfl .plain ?_; refine K.gtr rfl rfl (r := true) (decide_eq_true (by omega)) .plain <| RunK.nil <| LWP.condT rfl ?_; refine LWP.seq <| rgN <| kas rfl <| kas rfl <| RunK.nil <| LWP.ret ?_)
    exact ⟨[], ⟨[_, _], ⟨rfl, rfl, trivial⟩, rfl⟩, trivial, rfl, rfl⟩
  have hmk : slcBuild Tryz.prog 92 l.length = some (zeR l.length, 6, 101) := slcBuild_many (z := #[.string ⟨#[]⟩, .int .i64 0, .bool false, .bool false, .bool false, .nilFunc]) (by kernel_rfl) (by kernel_rfl) rfl (by omega)
  refine LWP.ends ?_
  (refine LWP.seq <| rgN <| kas rfl <| kas rfl <| RunK.nil <| LWP.seq <| LWP.seq <| rgN <| kmv rfl <| K.lenX rfl SliceT.h rfl .plain ?_; refine K.gtr rfl rfl (r := false) (decide_eq_false (by omega)) .plain <| RunK.nil <| LWP.condF rfl ?_; refine LWP.skip ?_; refine LWP.seq <| rgN <| kmv rfl <| K.lenX rfl SliceT.h rfl .plain ?_; refine K.makeSlc (m := l.length) (bytes := 40) rfl rfl hmk (by kernel_rfl) (by omega) rfl rfl .plain <| kas rfl <| kas rfl <| RunK.nil <| LWP.seq <| LWP.seq <| rgN <| kmv rfl <| K.lenX rfl SliceT.h rfl .plain ?_; refine kmv rfl <| RunK.nil <| LWP.block ?_)
  refine LWP.loopL (fun k σ => ∃ (i d : Nat) (q : List (Int × Value)) (H : Nat → Option Obj), i ≤ l.length ∧ k = l.length - i ∧ q.map (·.1) = (l.take i).map Ins.op ∧ (∀ p ∈ q, DeedV H p.2 p.1) ∧ OwnedM C X H ∧ dep okI 0 (l.take i) = some d ∧ σ = rwSt ad l.length cap i d (rwsV q ++ zeR (l.length - i)) [] [] (joinM X H)) l.length
    (Leads.le (σ' := rwSt ad l.length cap 0 0 (rwsV [] ++ zeR (l.length - 0)) [] [] X) ?_ (Leads.done ⟨0, 0, [], fun _ => none, by omega, by omega, rfl, fun p hp => absurd hp (by simp), OwnedM.nil _ _, rfl, by rw [joinM_nil]⟩)) ?_
  · exact Le.ofR [(500, 14)] (by exact ⟨rfl, rfl, rfl, rfl, rfl, rfl, trivial⟩) (by repeat' (first | exact trivial | refine And.intro ⟨_, rfl, ?_⟩ ?_ | refine And.intro ⟨_, rfl⟩ ?_ | rfl | exact Box.ren_bytes _ _ _ _ | exact Box.ren_vals _ _ _ _ | exact Box.ren_mid rfl)) (by exact rfl) (by exact rfl) (by repeat' (first | refine all_cons_true ?_ ?_ | rfl | exact bytes_inUse | exact vals_inUse | exact mid_inUse rfl)) (by exact rfl) (by exact rfl)
  rintro k σ ⟨i, d, q, H, hi, rfl, hq, hD, hO, hdep, rfl⟩
  have hqn : q.length = i := by
    have := congrArg List.length hq
    rw [List.length_map, List.length_map, List.length_take] at this
    omega
  have hd16 := dep_le (by omega) hdep
  by_cases hlt : i < l.length
  · obtain ⟨x, hx⟩ : ∃ x, l[i]? = some x := ⟨_, List.getElem?_eq_getElem hlt⟩
    have hmem := List.mem_of_getElem? hx
    have hsx := hin.small x hmem
    have hinJ : InsIn (joinM X H) ad l := hin.mono fun b o hb => by
      cases hc : H b with
      | none => rw [joinM_out hc]; exact hb
      | some o' => have := (hO.own b o' hc).2.2; rw [hb] at this; cases this
    obtain ⟨blk, off, arr, el, fr, rfl, hX, hsz, hcs, hop⟩ := hinJ.at hx
    have hio : off + Int.toNat (i : Int) * 6 = off + i * 6 := by simp
    have hin0 : 0 ≤ (i : Int) ∧ (i : Int) < (l.length : Nat) := by omega
    have hsn := dep_snoc hdep hx
    have hok := okI_bnd x
    have htk := takes_le x.op
    have bad : ¬ (okI x = true ∧ takes x.op ≤ d ∧ d - takes x.op + 1 ≤ 16) → chkX l = 4 := fun h => chkX_bad h64 hdep hx h
    by_cases hop17 : x.op < 1 ∨ 17 < x.op
    · have hc := bad (fun h => by have := (okI_facts h.1).1; omega)
      obtain ⟨q1, q2⟩ := rs_no (l := l) (by rw [hc]; decide)
      rw [q1, q2, hc]
      have hR := rowOf_no (joinM X H) x.op hop17
      (refine LWP.seq <| rgN <| klt rfl rfl (decide_eq_true (by omega)) <| RunK.nil <| LWP.seq <| LWP.condT rfl ?_; refine LWP.skip ?_; refine LWP.seq <| LWP.block <| LWP.seq <| rgN <| kmv rfl <| K.indexX rfl rfl SliceT.h hin0 hio .plain <| K.loadXagg rfl hX (by kernel_rfl) hsz hcs .plain <| K.alloc rfl .plain ?_; refine kas rfl <| K.storeAll rfl rfl rfl rfl rfl rfl .plain ?_; refine RunK.nil <| LWP.seq <| rgN <| kfa rfl rfl ?_; refine kl1 rfl rfl rfl <| kca rfl rfl (hR) <| K.alloc rfl .plain ?_; refine K.storeAll rfl rfl rfl rfl rfl rfl .plain ?_; refine RunK.nil <| LWP.seq <| LWP.seq <| rgN <| kfa rfl rfl ?_; refine kl1 rfl rfl rfl <| K.funcNil rfl (by kernel_rfl) (r := true) (.inl ⟨rfl, rfl⟩) .plain ?_; refine kmv rfl <| RunK.passed rfl rfl rfl <| RunK.passed rfl rfl rfl <| RunK.passed rfl rfl rfl <| kpt rfl rfl <| kmv rfl <| RunK.passed rfl rfl rfl <| RunK.passed rfl rfl rfl <| RunK.passed rfl rfl rfl <| RunK.passed rfl rfl rfl <| kpt rfl rfl <| RunK.nil <| LWP.condT rfl ?_; refine LWP.seq <| rgN <| kas rfl <| kas rfl <| RunK.nil <| LWP.ret ?_)
      exact Leads.done ⟨[], ⟨[_, _], ⟨rfl, rfl, trivial⟩, rfl⟩, trivial, rfl, rfl⟩
    (refine LWP.seq <| rgN <| klt rfl rfl (decide_eq_true (by omega)) <| RunK.nil <| LWP.seq <| LWP.condT rfl ?_; refine LWP.skip ?_; refine LWP.seq <| LWP.block <| LWP.seq <| rgN <| kmv rfl <| K.indexX rfl rfl SliceT.h hin0 hio .plain <| K.loadXagg rfl hX (by kernel_rfl) hsz hcs .plain <| K.alloc rfl .plain ?_; refine kas rfl <| K.storeAll rfl rfl rfl rfl rfl rfl .plain ?_; refine RunK.nil <| LWP.seq ?_)
    refine LWP.meetL (fun σ => ∃ (v : Value) (G : Nat → Option Obj), DeedV G v x.op ∧ MoreM H G ∧ OwnedM C X G ∧ σ = rwSt (some ⟨blk, off, none⟩) l.length cap i d (rwsV q ++ zeR (l.length - i)) [(6, Ln .i64 (i : Nat)), (7, Lp 7), (8, Lp 8)] (rdB8 x (.val v)) (joinM X G)) ?_ ?_
    · by_cases h5 : x.op < 5
      · obtain ⟨f, hDf, hR⟩ : ∃ f, DeedV H (fnV f) x.op ∧ PSpec Tryz.prog (joinM X H) 50 [Ln .i64 x.op] (LRow x.op (.val (fnV f))) := by
          generalize x.op = op at *
          rcases (show op = 1 ∨ op = 2 ∨ op = 3 ∨ op = 4 by omega) with rfl | rfl | rfl | rfl
          · exact ⟨_, deed_num H, rowOf_1 _⟩
          · exact ⟨_, deed_elem H, rowOf_2 _⟩
          · exact ⟨_, deed_here H, rowOf_3 _⟩
          · exact ⟨_, deed_place H, rowOf_4 _⟩
        (refine rgN <| kfa rfl rfl ?_; refine kl1 rfl rfl rfl <| kca rfl rfl (hR) <| K.alloc rfl .plain ?_; refine K.storeAll rfl rfl rfl rfl rfl rfl .plain ?_; refine RunK.nil ?_)
        exact Leads.le (Le.of (by exact ⟨rfl, rfl, rfl, rfl, rfl, rfl, rfl, rfl, rfl, trivial⟩) (by exact ⟨rfl, rfl, rfl, trivial⟩) (by exact rfl) (by exact rfl) (by repeat' (first | refine all_cons_true ?_ ?_ | rfl | exact bytes_inUse | exact vals_inUse | exact mid_inUse rfl))) (Leads.done ⟨_, H, hDf, MoreM.refl H, hO, rfl⟩)
      · have hR := rowOf_fn (joinM X H) x.op (by omega)
        (refine rgN <| kfa rfl rfl ?_; refine kl1 rfl rfl rfl <| K.callMp [(1000001, 600)] (LRow x.op (ptrF (cloF x.op) 600)) [dB 600 x.op] (hR) rfl rfl (by exact trivial) rfl rfl rfl rfl rfl (by exact (.box rfl rfl .nil)) .plain <| K.alloc rfl .plain ?_; refine K.storeAll rfl rfl rfl rfl rfl rfl .plain ?_; refine RunK.nil ?_)
        refine Leads.le (σ' := ⟨[(6, Ln .i64 (i : Nat)), (7, Lp 7), (8, Lp 8), (0, Lx (some ⟨blk, off, none⟩) l.length cap), (4, .sv (.one (.slc 500 0 l.length 6))), (5, Ln .i64 (d : Nat)), (15, Lx (some ⟨blk, off, none⟩) l.length cap), (16, Ln .i64 (l.length : Nat)), (17, Ln .i64 (i : Nat))], rdB8 x (ptrF (cloF x.op) 600) ++ dB 600 x.op :: [(500, some ⟨101, (rwsV q ++ zeR (l.length - i)).map .val, false⟩)], joinM X H⟩) (Le.of (by exact ⟨rfl, rfl, rfl, rfl, rfl, rfl, rfl, rfl, rfl, trivial⟩) (by exact ⟨rfl, rfl, rfl, rfl, trivial⟩) (by exact rfl) (by exact rfl) (by repeat' (first | refine all_cons_true ?_ ?_ | rfl | exact bytes_inUse | exact vals_inUse | exact mid_inUse rfl))) ?_
        refine Leads.fixRsc [] (rdB8 x (ptrF (cloF x.op) 600)) rfl rfl (by exact (by repeat' (first | refine all_cons_true ?_ ?_ | rfl | exact bytes_inUse | exact vals_inUse | exact mid_inUse rfl))) rfl rfl fun ρ G2 hR2 hO2 => ?_
        obtain ⟨k1, k2, k3⟩ := owned_join hO hO2
        rw [joinM_assoc]
        exact Leads.done ⟨.func (.func (cloF x.op)) #[] #[pv ρ.1], joinM H G2, DeedV.mono k3 hR2, k2, k1, rfl⟩
    rintro σ ⟨v, G, hDv, hHG, hOG, rfl⟩
    obtain ⟨f, caps, ev, _⟩ := id hDv
    subst ev
    have hB := tBounded (joinM X G) x hsx _ rfl
    cases hb : bndI x with
    | false =>
      rw [hb] at hB hok
      have hc := bad (fun h => by rw [hok, Bool.and_false] at h; cases h.1)
      obtain ⟨q1, q2⟩ := rs_no (l := l) (by rw [hc]; decide)
      rw [q1, q2, hc]
      (refine LWP.seq <| LWP.seq <| rgN <| kfa rfl rfl ?_; refine kl1 rfl rfl rfl <| K.funcNil rfl (by kernel_rfl) (r := false) (.inr ⟨⟨_, _, _, rfl⟩, rfl⟩) .plain ?_; refine kmv rfl <| K.loadAll rfl rfl rfl (.taken rfl rfl) ?_; refine gca rfl rfl hB rfl rfl <| K.not rfl rfl (.taken rfl rfl) ?_; refine kpf rfl rfl <| kmv rfl <| RunK.passed rfl rfl rfl <| RunK.passed rfl rfl rfl <| RunK.passed rfl rfl rfl <| RunK.passed rfl rfl rfl <| kpt rfl rfl <| RunK.nil <| LWP.condT rfl ?_; refine LWP.seq <| rgN <| kas rfl <| kas rfl <| RunK.nil <| LWP.ret ?_)
      exact Leads.done ⟨[], ⟨[_, _], ⟨rfl, rfl, trivial⟩, rfl⟩, trivial, rfl, rfl⟩
    | true =>
    rw [hb] at hB hok
    rw [decide_eq_true (show 1 ≤ x.op by omega), decide_eq_true (show x.op ≤ 17 by omega)] at hok
    have hok : okI x = true := hok
    by_cases hd : d < takes x.op
    · have hc := bad (fun h => by omega)
      obtain ⟨q1, q2⟩ := rs_no (l := l) (by rw [hc]; decide)
      rw [q1, q2, hc]
      (refine LWP.seq <| LWP.seq <| rgN <| kfa rfl rfl ?_; refine kl1 rfl rfl rfl <| K.funcNil rfl (by kernel_rfl) (r := false) (.inr ⟨⟨_, _, _, rfl⟩, rfl⟩) .plain ?_; refine kmv rfl <| K.loadAll rfl rfl rfl (.taken rfl rfl) ?_; refine gca rfl rfl hB rfl rfl <| K.not rfl rfl (.taken rfl rfl) ?_; refine kpf rfl rfl <| kmv rfl <| gmv rfl rfl rfl <| K.fieldAddr rfl rfl (.taken rfl rfl) ?_; refine K.loadOne rfl rfl rfl (.taken rfl rfl) ?_; refine K.lss rfl rfl (r := true) (decide_eq_true (by omega)) (.taken rfl rfl) ?_; refine kpf rfl rfl <| RunK.nil <| LWP.condT rfl ?_; refine LWP.seq <| rgN <| kas rfl <| kas rfl <| RunK.nil <| LWP.ret ?_)
      exact Leads.done ⟨[], ⟨[_, _], ⟨rfl, rfl, trivial⟩, rfl⟩, trivial, rfl, rfl⟩
    have hix : 0 + Int.toNat (i : Int) * 6 = i * 6 := by rw [Int.toNat_natCast]; omega
    have hpl : (rwsV q).length = i * 6 := by rw [rwsV_len, hqn]
    have hroom : i * 6 + 6 ≤ ((rwsV q ++ zeR (l.length - i)).map CV.val).length := by rw [List.length_map, List.length_append, hpl, zeR_len]; omega
    have hspl : splice ((rwsV q ++ zeR (l.length - i)).map CV.val) (i * 6) ((rowL x.op).map .val ++ [.val (.func (.func f) #[] caps.toArray)]) = (rwsV (q ++ [(x.op, .func (.func f) #[] caps.toArray)]) ++ zeR (l.length - (i + 1))).map CV.val := by
      rw [rwsV_snoc, show l.length - i = (l.length - (i + 1)) + 1 by omega, zeR_succ]
      unfold splice
      simp only [List.map_append, List.append_assoc]
      have hml : ((rwsV q).map CV.val).length = i * 6 := by rw [List.length_map, hpl]
      generalize (rwsV q).map CV.val = R at *
      rw [← hml, List.take_left, List.drop_length_add_append]
      simp [rowVs, rowL]
    have hsub : IntKind.i64.wrap (1 - ((takes x.op : Nat) : Int)) = 1 - ((takes x.op : Nat) : Int) := wrap_i64 (by omega)
    have hadd : IntKind.i64.wrap (((d : Nat) : Int) + (1 - ((takes x.op : Nat) : Int))) = ((d - takes x.op + 1 : Nat) : Int) := by rw [wrap_i64 (by omega)]; omega
    have hinc : IntKind.i64.wrap (((i : Nat) : Int) + 1) = ((i + 1 : Nat) : Int) := by rw [wrap_i64 (by omega)]; omega
    by_cases h16 : 16 < d - takes x.op + 1
    · have hc := bad (fun h => by omega)
      obtain ⟨q1, q2⟩ := rs_no (l := l) (by rw [hc]; decide)
      rw [q1, q2, hc]
      (refine LWP.seq <| LWP.seq <| rgN <| kfa rfl rfl ?_; refine kl1 rfl rfl rfl <| K.funcNil rfl (by kernel_rfl) (r := false) (.inr ⟨⟨_, _, _, rfl⟩, rfl⟩) .plain ?_; refine kmv rfl <| K.loadAll rfl rfl rfl (.taken rfl rfl) ?_; refine gca rfl rfl hB rfl rfl <| K.not rfl rfl (.taken rfl rfl) ?_; refine kpf rfl rfl <| kmv rfl <| gmv rfl rfl rfl <| K.fieldAddr rfl rfl (.taken rfl rfl) ?_; refine K.loadOne rfl rfl rfl (.taken rfl rfl) ?_; refine K.lss rfl rfl (r := false) (decide_eq_false (by omega)) (.taken rfl rfl) ?_; refine kpf rfl rfl <| RunK.nil <| LWP.condF rfl ?_; refine LWP.skip ?_; refine LWP.seq <| rgN <| kmv rfl <| kmv rfl <| K.loadAll rfl rfl rfl .plain ?_; refine K.indexSlc rfl rfl (by omega) hix .plain ?_; refine K.store rfl rfl rfl rfl (by kernel_rfl) hroom hspl .plain <| RunK.nil <| LWP.seq <| rgN <| kmv rfl <| kfa rfl rfl ?_; refine kl1 rfl rfl rfl <| K.sub rfl rfl hsub .plain <| kad rfl rfl hadd <| kas rfl <| RunK.nil <| LWP.seq <| rgN <| kmv rfl <| K.gtr rfl rfl (r := true) (decide_eq_true (by omega)) .plain <| RunK.nil <| LWP.condT rfl ?_; refine LWP.seq <| rgN <| kas rfl <| kas rfl <| RunK.nil <| LWP.ret ?_)
      exact Leads.done ⟨[], ⟨[_, _], ⟨rfl, rfl, trivial⟩, rfl⟩, trivial, rfl, rfl⟩
    · rw [if_pos ⟨hok, by omega, by omega⟩] at hsn
      (refine LWP.seq <| LWP.seq <| rgN <| kfa rfl rfl ?_; refine kl1 rfl rfl rfl <| K.funcNil rfl (by kernel_rfl) (r := false) (.inr ⟨⟨_, _, _, rfl⟩, rfl⟩) .plain ?_; refine kmv rfl <| K.loadAll rfl rfl rfl (.taken rfl rfl) ?_; refine gca rfl rfl hB rfl rfl <| K.not rfl rfl (.taken rfl rfl) ?_; refine kpf rfl rfl <| kmv rfl <| gmv rfl rfl rfl <| K.fieldAddr rfl rfl (.taken rfl rfl) ?_; refine K.loadOne rfl rfl rfl (.taken rfl rfl) ?_; refine K.lss rfl rfl (r := false) (decide_eq_false (by omega)) (.taken rfl rfl) ?_; refine kpf rfl rfl <| RunK.nil <| LWP.condF rfl ?_; refine LWP.skip ?_; refine LWP.seq <| rgN <| kmv rfl <| kmv rfl <| K.loadAll rfl rfl rfl .plain ?_; refine K.indexSlc rfl rfl (by omega) hix .plain ?_; refine K.store rfl rfl rfl rfl (by kernel_rfl) hroom hspl .plain <| RunK.nil <| LWP.seq <| rgN <| kmv rfl <| kfa rfl rfl ?_; refine kl1 rfl rfl rfl <| K.sub rfl rfl hsub .plain <| kad rfl rfl hadd <| kas rfl <| RunK.nil <| LWP.seq <| rgN <| kmv rfl <| K.gtr rfl rfl (r := false) (decide_eq_false (by omega)) .plain <| RunK.nil <| LWP.condF rfl ?_; refine LWP.skip ?_; refine rgN <| kad rfl rfl hinc <| kmv rfl <| RunK.nil ?_)
      refine Leads.le (σ' := rwSt (some ⟨blk, off, none⟩) l.length cap (i + 1) (d - takes x.op + 1) (rwsV (q ++ [(x.op, .func (.func f) #[] caps.toArray)]) ++ zeR (l.length - (i + 1))) [] [] (joinM X G)) (Le.of (by exact ⟨rfl, rfl, rfl, rfl, rfl, rfl, trivial⟩) (by exact ⟨rfl, trivial⟩) (by exact rfl) (by exact rfl) (by repeat' (first | refine all_cons_true ?_ ?_ | rfl | exact bytes_inUse | exact vals_inUse | exact mid_inUse rfl))) (Leads.done ⟨l.length - (i + 1), by omega, i + 1, _, _, G, by omega, rfl, ?_, ?_, hOG, hsn, rfl⟩)
      · rw [List.map_append, hq, List.take_add_one, hx, List.map_append]
        rfl
      · intro p hp
        rcases List.mem_append.1 hp with hp | hp
        · exact (hD p hp).mono hHG
        · rw [List.mem_singleton] at hp
          subst hp
          exact hDv
  · have e : i = l.length := by omega
    subst e
    rw [List.take_length] at hq hdep
    have hz : zeR (l.length - l.length) = [] := by rw [Nat.sub_self]; rfl
    rw [hz, List.append_nil]
    by_cases h1 : d = 1
    · subst h1
      have hc : chkX l = 0 := by unfold chkX; rw [if_neg h64, if_pos hdep]
      obtain ⟨q1, q2⟩ := rs_ok hc
      rw [q1, q2]
      (refine LWP.seq <| rgN <| klt rfl rfl (decide_eq_false (by omega)) <| RunK.nil <| LWP.seq <| LWP.condF rfl ?_; refine LWP.exit <| LWP.seq <| LWP.seq <| rgN <| kmv rfl <| kne rfl rfl (r := false) rfl <| RunK.nil <| LWP.condF rfl ?_; refine LWP.skip ?_; refine LWP.seq <| rgN <| kmv rfl <| kas rfl <| kas rfl <| RunK.nil <| LWP.ret ?_)
      refine Leads.le (σ' := ⟨[(2, .sv (.one (.slc 500 0 l.length 6))), (3, Ln .i64 0)], [(500, some ⟨101, (rwsV q).map .val, false⟩)], joinM X H⟩) (Le.of (by exact ⟨rfl, rfl, trivial⟩) (by exact ⟨rfl, trivial⟩) (by exact rfl) (by exact rfl) (by repeat' (first | refine all_cons_true ?_ ?_ | rfl | exact bytes_inUse | exact vals_inUse | exact mid_inUse rfl))) ?_
      refine Leads.closeRes (R := rowsR l) hO (fun ρ fr g1 g2 g3 => ⟨q, fr, withBlock_at _ _ _, g3, hq, fun p hp => (hD p hp).mono (withBlock_old g1)⟩) (Leads.done ?_)
      exact ⟨[(1000001, 500)], ⟨[_, _], ⟨rfl, rfl, trivial⟩, rfl⟩, (by repeat' (first | exact trivial | refine And.intro ⟨_, rfl, ?_⟩ ?_ | refine And.intro ⟨_, rfl⟩ ?_ | rfl | exact Box.ren_bytes _ _ _ _ | exact Box.ren_vals _ _ _ _ | exact Box.ren_mid rfl)), rfl, rfl⟩
    · have hc : chkX l = 4 := by unfold chkX; rw [if_neg h64, if_neg (fun h => h1 (by rw [hdep] at h; exact Option.some.inj h))]
      obtain ⟨q1, q2⟩ := rs_no (l := l) (by rw [hc]; decide)
      rw [q1, q2, hc]
      (refine LWP.seq <| rgN <| klt rfl rfl (decide_eq_false (by omega)) <| RunK.nil <| LWP.seq <| LWP.condF rfl ?_; refine LWP.exit <| LWP.seq <| LWP.seq <| rgN <| kmv rfl <| kne rfl rfl (r := true) (bne_iff_ne.2 (by omega)) <| RunK.nil <| LWP.condT rfl ?_; refine LWP.seq <| rgN <| kas rfl <| kas rfl <| RunK.nil <| LWP.ret ?_)
      exact Leads.done ⟨[], ⟨[_, _], ⟨rfl, rfl, trivial⟩, rfl⟩, trivial, rfl, rfl⟩
theorem gCheck' (l : List Ins) (ad : Option Addr) (cap : Nat) (hin : InsIn X ad l) (hl : l.length < 1152921504606846976) : PSpec Tryz.prog X 19 [Lx ad l.length cap] (Ln .i64 (chkX l)) := by
  have hR := tRowsOf X l ad cap hin hl
  refine PSpec.intro Tryz.func19 rfl (by kernel_rfl) rfl rfl ?_
  intro C
  by_cases h : chkX l = 0
  · rw [(rs_ok h).1, (rs_ok h).2] at hR
    rw [h]
    (refine LWP.seq <| rgN <| kas rfl <| RunK.nil <| LWP.seq <| rgN <| kmv rfl <| K.callMp [(1000001, 500)] (.tup [.one (.slc 500 0 l.length 6), Sn .i64 0]) [(500, some ⟨0, [], .res (rowsR l)⟩)] (hR) rfl rfl (by exact trivial) rfl rfl rfl rfl rfl (by exact (.box rfl rfl .nil)) .plain <| kmv rfl <| kex rfl rfl <| kex rfl rfl <| kas rfl <| kas rfl <| RunK.nil ?_; refine LWP.seq <| rgN <| kmv rfl <| kas rfl <| RunK.nil <| LWP.ret ?_)
    exact ⟨[_], ⟨rfl, trivial⟩, rfl⟩
  · rw [(rs_no h).1, (rs_no h).2] at hR
    (refine LWP.seq <| rgN <| kas rfl <| RunK.nil <| LWP.seq <| rgN <| kmv rfl <| K.callM [] [] (hR) rfl rfl (by exact trivial) rfl rfl rfl rfl rfl (by exact .nil) .plain <| kmv rfl <| kex rfl rfl <| kex rfl rfl <| kas rfl <| kas rfl <| RunK.nil ?_; refine LWP.seq <| rgN <| kmv rfl <| kas rfl <| RunK.nil <| LWP.ret ?_)
    exact ⟨[_], ⟨rfl, trivial⟩, rfl⟩
end Go.Proofs.YtnfbccfghgmfiaaGreat
end
section
namespace Go.Lg.Fml
theorem dep_step {okJ : Ins → Bool} {l : List Ins} {m i d : Nat} {x : Ins} (h : dep okJ 0 l = some m) (hd : dep okJ 0 (l.take i) = some d) (hx : l[i]? = some x) : okJ x = true ∧ takes x.op ≤ d ∧ d - takes x.op + 1 ≤ 16 ∧ dep okJ 0 (l.take (i + 1)) = some (d - takes x.op + 1) := by
  have h1 := dep_snoc hd hx
  by_cases c : okJ x = true ∧ takes x.op ≤ d ∧ d - takes x.op + 1 ≤ 16
  · rw [if_pos c] at h1
    exact ⟨c.1, c.2.1, c.2.2, h1⟩
  · rw [if_neg c] at h1
    have := dep_none h1
    rw [h] at this
    cases this
section
variable {V : Type} {one : Ins → List V → Except Int V}
theorem run_snoc {l : List Ins} {i : Nat} {x : Ins} {st : List V} (h : run one (l.take i) [] = .ok st) (hx : l[i]? = some x) : run one (l.take (i + 1)) [] = match one x (st.take (takes x.op)).reverse with | .error e => .error e | .ok v => .ok (v :: st.drop (takes x.op)) := by
  rw [List.take_add_one, hx, run_app, h]
  simp only [Option.toList_some, run]
  cases one x (st.take (takes x.op)).reverse <;> rfl
theorem run_fail {l : List Ins} {i : Nat} {x : Ins} {st : List V} {e : Int} (h : run one (l.take i) [] = .ok st) (hx : l[i]? = some x) (ho : one x (st.take (takes x.op)).reverse = .error e) : run one l [] = .error e := by
  have h1 := run_snoc h hx
  rw [ho] at h1
  rw [← List.take_append_drop (i + 1) l, run_app, h1]
def headX : Except Int (List V) → Except Int V
  | .error e => .error e
  | .ok (v :: _) => .ok v
  | .ok [] => .error 0
end
end Go.Lg.Fml
namespace Go.Proofs.YtnfbccfghgmfiaaGreat
open Go Go.Lg Go.Lg.Fml Go.Lg.Fld Go.Lg.Arith
set_option maxRecDepth 100000
theorem exR_closed (r : Except Int Nm) : (exR r).closed = true := by cases r <;> rfl
def StepN (Y : Nat → Option Obj) (v : Value) (one : Ins → List Nm → Except Int Nm) : Prop := ∃ (f : FuncId) (caps : List Value), v = .func (.func f) #[] caps.toArray ∧ ∀ Z, MoreM Y Z → ∀ x : Ins, smallI x → ∀ dv : Value, DeedV Z dv x.op → ∀ (tad : Option Addr) (tcap : Nat) (ts : List Nm), NumsIn Z tad ts → ts.length = takes x.op →
  PSpec Tryz.prog Z f ([LRow x.op (.val dv), LIn x, Lx tad ts.length tcap] ++ capL caps) (exR (one x ts))
theorem step_eval {Y : Nat → Option Obj} {blk : Nat} {arr : Array Value} {el : TypeId} {fr : Nat × Nat} {fad : Option Addr} {fcap : Nat} {fs : List (List Nm)} {at_ : Int} (hY : Y blk = some (.cells arr el fr)) (hsp : ∃ sp, arr.toList = [.slice fad fs.length fcap, .int .i64 at_] ++ sp) (hE : EnvIn Y fad fs at_) : StepN Y (.func (.func 36) #[] #[pv blk]) (oneX fs at_) := by
  refine ⟨36, [pv blk], rfl, fun Z hZ x hx dv hD tad tcap ts hts hlen => ?_⟩
  obtain ⟨f, caps, rfl, hF⟩ := hD
  have hP := hF Z (MoreM.refl Z) x rfl hx fad fcap fs at_ (hE.mono hZ) tad tcap ts hts hlen
  have hX := hZ _ _ hY
  obtain ⟨sp, hsp⟩ := hsp
  have hs0 : 0 + 2 ≤ arr.size := by rw [← Array.length_toList, hsp]; simp
  have hc0 : ((arr.toList.drop 0).take 2).map CV.val = [.val (.slice fad fs.length fcap), .val (.int .i64 at_)] := by rw [hsp]; rfl
  show PSpec _ Z _ [LRow x.op (.val (.func (.func f) #[] caps.toArray)), LIn x, Lx tad ts.length tcap, .sv (.one (.val (pv blk)))] (exR (oneX fs at_ x ts))
  rw [exR_eq] at hP ⊢
  generalize exE (oneX fs at_ x ts) = e at *
  generalize exV (oneX fs at_ x ts) = v at *
  obtain ⟨vb, vN⟩ := v
  refine PSpec.intro Tryz.func36 rfl (by kernel_rfl) rfl rfl ?_
  intro C
  (refine LWP.seq <| rgN <| K.box rfl rfl rfl .plain <| K.box rfl rfl rfl .plain <| K.alloc rfl .plain ?_; refine kas rfl <| RunK.nil <| LWP.seq <| rgN <| kfa rfl rfl ?_; refine kl1 rfl rfl rfl <| K.loadAll rfl rfl rfl .plain ?_; refine K.loadXagg rfl hX (by kernel_rfl) hs0 hc0 .plain <| kmv rfl <| K.callF rfl rfl rfl hP .plain ?_; refine kex rfl rfl <| kex rfl rfl <| K.storeAll rfl rfl rfl rfl rfl rfl .plain ?_; refine kas rfl <| RunK.nil <| LWP.ret ?_)
  exact ⟨[_, _], ⟨⟨_, _, rfl, rfl, rfl, .inl ⟨AggT.h, rfl⟩⟩, rfl, trivial⟩, rfl⟩
theorem nums_tail {Z : Nat → Option Obj} {sb : Nat} {arr : Array Value} {el : TypeId} {fr : Nat × Nat} {ns : List Nm} {rest cap : Nat} (hZ : Z sb = some (.cells arr el fr)) (h2 : ∀ u ∈ ns, In2 u.2) (hsp : ∃ sp, arr.toList = nmsV ns ++ sp) (hc : cap = rest → ns.drop rest = []) :
    NumsIn Z (some ⟨sb, if cap = rest then 0 else 0 + rest * 3, none⟩) (ns.drop rest) := by
  have hN := nms_in hZ h2 hsp
  refine ⟨fun i r hi => ?_, fun u hu => h2 u (List.mem_of_mem_drop hu)⟩
  by_cases c : cap = rest
  · rw [hc c] at hi; simp at hi
  · rw [if_neg c]
    rw [List.getElem?_map, List.getElem?_drop] at hi
    obtain ⟨blk, off, arr', el', fr', e1, e2, e3, e4⟩ := hN.rows (rest + i) r (by rw [List.getElem?_map]; exact hi)
    simp only [Option.some.injEq, Addr.mk.injEq] at e1
    obtain ⟨rfl, rfl, _⟩ := e1
    refine ⟨sb, 0 + rest * 3, arr', el', fr', rfl, e2, by omega, ?_⟩
    rw [← e4, show 0 + rest * 3 + i * 3 = 0 + (rest + i) * 3 by omega]
theorem nmsV_app (a b : List Nm) : nmsV (a ++ b) = nmsV a ++ nmsV b := by unfold nmsV; rw [List.map_append, List.flatten_append]
theorem more_join {C : Ctx} {X H : Nat → Option Obj} (hO : OwnedM C X H) : MoreM X (joinM X H) ∧ MoreM H (joinM X H) := by
  refine ⟨fun b o hb => ?_, fun b o hb => joinM_in hb⟩
  cases hc : H b with
  | none => rw [joinM_out hc]; exact hb
  | some o' => have := (hO.own b o' hc).2.2; rw [hb] at this; cases this
variable (X : Nat → Option Obj)
abbrev rnSt (rad ad : Option Addr) (n rcap cap i : Nat) (v : Value) (ms : List (Nat × LV)) (mb : List (Nat × Option Box)) (Y : Nat → Option Obj) : St :=
  ⟨ms ++ [(0, Lx rad n rcap), (1, Lx ad n cap), (2, .sv (.one (.val v))), (6, Lp 6), (15, Lx rad n rcap), (16, Ln .i64 (n : Nat)), (17, Ln .i64 (i : Nat))], mb ++ [(6, some ⟨64, [.val (.bool false), .val (.int .u64 0), .val (.int .u64 0)], false⟩)], Y⟩
set_option maxHeartbeats 12800000 in
theorem tRunN (l : List Ins) (hchk : chkX l = 0) (ad : Option Addr) (cap : Nat) (hin : InsIn X ad l) (rad : Option Addr) (rcap : Nat) (hrows : RowsOK X rad l) (v : Value) (one : Ins → List Nm → Except Int Nm) (hv : StepN X v one)
    (h2 : ∀ x ∈ l, ∀ a u, (∀ w ∈ a, In2 w.2) → one x a = .ok u → In2 u.2) (he : ∀ x a e, a.length = takes x.op → one x a = .error e → e ≠ 0) :
    PSpec Tryz.prog X 35 [Lx rad l.length rcap, Lx ad l.length cap, .sv (.one (.val v))] (exR (headX (run one l []))) := by
  obtain ⟨h64, hdep1⟩ := chkX_zero hchk
  obtain ⟨f, caps, rfl, hF⟩ := hv
  refine PSpec.intro Tryz.func35 rfl (by kernel_rfl) rfl (exR_closed _) ?_
  intro C
  have hmk : slcBuild Tryz.prog 61 16 = some ((List.replicate 16 [Value.bool false, .int .u64 0, .int .u64 0]).flatten, 3, 64) := slcBuild_many (z := #[.bool false, .int .u64 0, .int .u64 0]) (by kernel_rfl) (by kernel_rfl) rfl (by omega)
  (refine LWP.seq <| rgN <| K.alloc rfl .plain ?_; refine kas rfl <| RunK.nil <| LWP.seq <| rgN <| K.makeSlc0 (m := 16) (bytes := 24) rfl rfl hmk (by kernel_rfl) (by omega) rfl .plain ?_; refine kas rfl <| RunK.nil <| LWP.seq <| LWP.seq <| rgN <| kmv rfl <| K.lenX rfl SliceT.h rfl .plain ?_; refine kmv rfl <| RunK.nil <| LWP.block ?_)
  refine LWP.loop (fun k σ => ∃ (i : Nat) (st : List Nm), i ≤ l.length ∧ k = l.length - i ∧ run one (l.take i) [] = .ok st ∧ (∀ w ∈ st, In2 w.2) ∧ dep okI 0 (l.take i) = some st.length ∧ σ = rnSt rad ad l.length rcap cap i (.func (.func f) #[] caps.toArray) [(8, .sv (.one (.slc 500 0 st.length 3)))] [(500, some ⟨64, (nmsV st.reverse).map .val, true⟩)] X) l.length
    ⟨rnSt rad ad l.length rcap cap 0 (.func (.func f) #[] caps.toArray) [(8, .sv (.one (.slc 500 0 0 3)))] [(500, some ⟨64, [], true⟩)] X, Le.ofR [(500, 14), (6, 6)] (by exact ⟨rfl, rfl, rfl, rfl, rfl, rfl, rfl, rfl, trivial⟩) (by repeat' (first | exact trivial | refine And.intro ⟨_, rfl, ?_⟩ ?_ | refine And.intro ⟨_, rfl⟩ ?_ | rfl | exact Box.ren_bytes _ _ _ _ | exact Box.ren_vals _ _ _ _ | exact Box.ren_mid rfl)) (by exact rfl) (by exact rfl) (by repeat' (first | refine all_cons_true ?_ ?_ | rfl | exact bytes_inUse | exact vals_inUse | exact mid_inUse rfl)) (by exact rfl) (by exact rfl), 0, [], by omega, by omega, rfl, fun w hw => absurd hw (by simp), rfl, rfl⟩ ?_
  rintro k σ ⟨i, st, hi, rfl, hst, hst2, hdep, rfl⟩
  by_cases hlt : i < l.length
  · obtain ⟨x, hx⟩ : ∃ x, l[i]? = some x := ⟨_, List.getElem?_eq_getElem hlt⟩
    have hmem := List.mem_of_getElem? hx
    have hsx := hin.small x hmem
    obtain ⟨hok, htk, h16, hdn⟩ := dep_step hdep1 hdep hx
    have hd16 := dep_le (by omega) hdep
    obtain ⟨rblk, roff, rarr, rel, rfr, dv, rfl, hXr, hszr, hcsr, hDv⟩ := hrows.at hx
    obtain ⟨g, gcaps, egv, _⟩ := id hDv
    subst egv
    obtain ⟨blk, off, arr, el, fr, rfl, hX, hsz, hcs, hop⟩ := hin.at hx
    have hio : off + Int.toNat (i : Int) * 6 = off + i * 6 := by simp
    have hior : roff + Int.toNat (i : Int) * 6 = roff + i * 6 := by simp
    have hin0 : 0 ≤ (i : Int) ∧ (i : Int) < (l.length : Nat) := by omega
    obtain ⟨rest, hrest⟩ : ∃ rest, st.length - takes x.op = rest := ⟨_, rfl⟩
    have hsub : IntKind.i64.wrap (((st.length : Nat) : Int) - ((takes x.op : Nat) : Int)) = ((rest : Nat) : Int) := by rw [wrap_i64 (by omega)]; omega
    (refine LWP.seq <| rgN <| klt rfl rfl (decide_eq_true (by omega)) <| RunK.nil <| LWP.seq <| LWP.condT rfl ?_; refine LWP.skip ?_; refine LWP.seq <| LWP.block <| LWP.seq <| rgN <| kmv rfl <| K.indexX rfl rfl SliceT.h hin0 hior .plain <| K.loadXagg rfl hXr (by kernel_rfl) hszr hcsr .plain <| K.alloc rfl .plain ?_; refine kas rfl <| K.storeAll rfl rfl rfl rfl rfl rfl .plain ?_; refine RunK.nil <| LWP.seq <| rgN <| kmv rfl <| K.lenSlc rfl SliceT.h rfl .plain ?_; refine kfa rfl rfl ?_; refine kl1 rfl rfl rfl <| K.sub rfl rfl hsub .plain <| kas rfl <| RunK.nil <| LWP.seq ?_)
    refine LWP.le (σ' := ⟨[(8, .sv (.one (.slc 500 0 st.length 3))), (0, Lx (some ⟨rblk, roff, none⟩) l.length rcap), (1, Lx (some ⟨blk, off, none⟩) l.length cap), (2, .sv (.one (.val (.func (.func f) #[] caps.toArray)))), (6, Lp 6), (9, Ln .i64 (i : Nat)), (10, Lp 10), (11, Ln .i64 (rest : Nat)), (15, Lx (some ⟨rblk, roff, none⟩) l.length rcap), (16, Ln .i64 (l.length : Nat)), (17, Ln .i64 (i : Nat))], [(500, some ⟨64, (nmsV st.reverse).map .val, true⟩), (6, some ⟨64, [.val (.bool false), .val (.int .u64 0), .val (.int .u64 0)], false⟩), (10, some ⟨101, (rowVs (x.op, .func (.func g) #[] gcaps.toArray)).map .val, false⟩)], X⟩) (Le.of (by exact ⟨rfl, rfl, rfl, rfl, rfl, rfl, rfl, rfl, rfl, rfl, rfl, trivial⟩) (by exact ⟨rfl, rfl, rfl, trivial⟩) (by exact rfl) (by exact rfl) (by repeat' (first | refine all_cons_true ?_ ?_ | rfl | exact bytes_inUse | exact vals_inUse | exact mid_inUse rfl))) ?_
    refine LWP.freeze rfl (by exact (by repeat' (first | refine all_cons_true ?_ ?_ | rfl | exact bytes_inUse | exact vals_inUse | exact mid_inUse rfl))) rfl fun sb scap sarr sfr hn hFz hcp hfit hsp => ?_
    have hXZ : MoreM X (withBlock X sb (.cells sarr 64 sfr)) := withBlock_old hn
    have hts : st.reverse.drop rest = (st.take (takes x.op)).reverse := by rw [List.drop_reverse, ← hrest, show st.length - (st.length - takes x.op) = takes x.op by omega]
    have hln : ((st.take (takes x.op)).reverse).length = takes x.op := by rw [List.length_reverse, List.length_take]; omega
    have hN := nums_tail (cap := scap) (rest := rest) (withBlock_at X sb (.cells sarr 64 sfr)) (fun u hu => hst2 u (List.mem_reverse.1 hu)) hsp (fun e => List.drop_eq_nil_of_le (by rw [List.length_reverse]; omega))
    rw [hts] at hN
    have hP := hF _ hXZ x hsx _ (hDv.mono hXZ) _ (scap - rest) _ hN hln
    have hln2 : st.length - rest = ((st.take (takes x.op)).reverse).length := by rw [hln]; omega
    have hXc := hXZ _ _ hX
    have hsn := run_snoc hst hx
    cases hone : one x (st.take (takes x.op)).reverse with
    | error e =>
      have hne := he x _ e hln hone
      rw [run_fail hst hx hone]
      rw [hone] at hP
      show LWP _ _ _ _ _ _
      (refine rgD mixed <| kmv rfl <| K.loadAll rfl rfl rfl .plain ?_; refine kmv rfl <| kmv rfl <| K.indexX rfl rfl SliceT.h hin0 hio .plain <| K.loadXagg rfl hXc (by kernel_rfl) hsz hcs .plain <| kmv rfl <| kmv rfl <| K.cutLoX rfl rfl SliceT.h (by omega) rfl hln2 rfl .plain ?_; refine K.callF rfl rfl rfl hP .plain ?_; refine kmv rfl <| kex rfl rfl <| kex rfl rfl <| K.alloc rfl .plain ?_; refine K.storeAll rfl rfl rfl rfl rfl rfl .plain ?_; refine kas rfl <| RunK.nil <| rgA ?_; refine LWP.seq <| LWP.seq <| rgN <| kmv rfl <| kne rfl rfl (r := true) (bne_iff_ne.2 hne) <| RunK.nil <| LWP.condT rfl ?_; refine LWP.seq <| rgN <| K.loadAll rfl rfl rfl .plain ?_; refine kmv rfl <| K.storeAll rfl rfl rfl rfl rfl rfl .plain ?_; refine kas rfl <| RunK.nil <| LWP.ret ?_)
      exact ⟨[_, _], ⟨⟨_, _, rfl, rfl, rfl, .inl ⟨AggT.h, rfl⟩⟩, rfl, trivial⟩, rfl⟩
    | ok u =>
      rw [hone] at hP hsn
      simp only at hsn
      have hu2 := h2 x hmem _ u (fun w hw => hst2 w (List.mem_of_mem_take (List.mem_reverse.1 hw))) hone
      obtain ⟨ub, uN⟩ := u
      have hP : PSpec Tryz.prog (withBlock X sb (.cells sarr 64 sfr)) f ([LRow x.op (.val (.func (.func g) #[] gcaps.toArray)), LIn x, Lx (some ⟨sb, if scap = rest then 0 else 0 + rest * 3, none⟩) ((st.take (takes x.op)).reverse).length (scap - rest)] ++ capL caps) (.tup [SI ub uN, Sn .i64 0]) := hP
      (refine rgD mixed <| kmv rfl <| K.loadAll rfl rfl rfl .plain ?_; refine kmv rfl <| kmv rfl <| K.indexX rfl rfl SliceT.h hin0 hio .plain <| K.loadXagg rfl hXc (by kernel_rfl) hsz hcs .plain <| kmv rfl <| kmv rfl <| K.cutLoX rfl rfl SliceT.h (by omega) rfl hln2 rfl .plain ?_; refine K.callF rfl rfl rfl hP .plain ?_; refine kmv rfl <| kex rfl rfl <| kex rfl rfl <| K.alloc rfl .plain ?_; refine K.storeAll rfl rfl rfl rfl rfl rfl .plain ?_; refine kas rfl <| RunK.nil <| rgA ?_; refine LWP.seq <| LWP.seq <| rgN <| kmv rfl <| kne rfl rfl (r := false) rfl <| RunK.nil <| LWP.condF rfl ?_; refine LWP.skip ?_)
      have hspl : nmsV st.reverse = nmsV (st.reverse.take rest) ++ nmsV (st.reverse.drop rest) := by rw [← nmsV_app, List.take_append_drop]
      have hsp2 : ∃ sp, sarr.toList = nmsV (st.reverse.take rest) ++ sp := by
        obtain ⟨sp, hsp⟩ := hsp
        exact ⟨_, by rw [hsp, hspl, List.append_assoc]⟩
      have hrl : (st.reverse.take rest).length = rest := by rw [List.length_take, List.length_reverse]; omega
      refine LWP.le (σ' := ⟨[(8, .sv (.one (.val (.slice (some ⟨sb, 0, none⟩) st.length scap)))), (0, Lx (some ⟨rblk, roff, none⟩) l.length rcap), (1, Lx (some ⟨blk, off, none⟩) l.length cap), (2, .sv (.one (.val (.func (.func f) #[] caps.toArray)))), (6, Lp 6), (11, Ln .i64 (rest : Nat)), (12, Lp 12), (15, Lx (some ⟨rblk, roff, none⟩) l.length rcap), (16, Ln .i64 (l.length : Nat)), (17, Ln .i64 (i : Nat))], [(6, some ⟨64, [.val (.bool false), .val (.int .u64 0), .val (.int .u64 0)], false⟩), (12, some ⟨64, cI ub uN, false⟩)], withBlock X sb (.cells sarr 64 sfr)⟩) (Le.of (by exact ⟨rfl, rfl, rfl, rfl, rfl, rfl, rfl, rfl, rfl, rfl, trivial⟩) (by exact ⟨rfl, rfl, trivial⟩) (by exact rfl) (by exact rfl) (by repeat' (first | refine all_cons_true ?_ ?_ | rfl | exact bytes_inUse | exact vals_inUse | exact mid_inUse rfl))) ?_
      refine LWP.thaw (k := 500) (sz := 3) (vals := nmsV (st.reverse.take rest)) hn hFz hcp hfit hsp2 rfl rfl rfl (by decide) ?_
      have hl3 : ((nmsV (st.reverse.take rest)).map CV.val).length = rest * 3 := by rw [nmsV_len, hrl]
      have hnc := nmsV_snoc (st.reverse.take rest) (ub, uN)
      have hinc : IntKind.i64.wrap (((i : Nat) : Int) + 1) = ((i + 1 : Nat) : Int) := by rw [wrap_i64 (by omega)]; omega
      have hst' : st.reverse.take rest = (st.drop (takes x.op)).reverse := by rw [List.take_reverse, ← hrest, show st.length - (st.length - takes x.op) = takes x.op by omega]
      have hlen2 : (((ub, uN) : Nm) :: st.drop (takes x.op)).length = rest + 1 := by rw [List.length_cons, List.length_drop]; omega
      (refine rgD mixed <| kmv rfl <| kmv rfl <| K.cutSlc rfl rfl SliceT.h (by omega) .plain <| K.loadAll rfl rfl rfl .plain ?_; refine K.buildSlc (zs := [Value.bool false, .int .u64 0, .int .u64 0]) (sz := 3) (e := 64) (cs' := [.val (.bool ub), .val (.int .u64 (uN / 18446744073709551616)), .val (.int .u64 (uN % 18446744073709551616))]) (by kernel_rfl) rfl rfl rfl rfl rfl rfl .plain <| K.appendSlc (by_ := 24) (e2 := 64) (l2 := [.val (.bool ub), .val (.int .u64 (uN / 18446744073709551616)), .val (.int .u64 (uN % 18446744073709551616))]) (nl := rest + 1) (nc := (nmsV (st.reverse.take rest ++ [(ub, uN)])).map .val) rfl rfl hl3 rfl rfl (Nat.le_refl _) rfl rfl (by kernel_rfl) (by kernel_rfl) (by omega) (by omega) rfl rfl hnc .plain <| kas rfl <| RunK.nil <| rgA ?_; refine rgN <| kad rfl rfl hinc <| kmv rfl <| RunK.nil ?_)
      exact ⟨l.length - (i + 1), rnSt (some ⟨rblk, roff, none⟩) (some ⟨blk, off, none⟩) l.length rcap cap (i + 1) (.func (.func f) #[] caps.toArray) [(8, .sv (.one (.slc 500 0 (rest + 1) 3)))] [(500, some ⟨64, (nmsV (st.reverse.take rest ++ [(ub, uN)])).map .val, true⟩)] X, by omega, Le.ofR [(500, 49), (6, 6)] (by exact ⟨rfl, rfl, rfl, rfl, rfl, rfl, rfl, rfl, trivial⟩) (by repeat' (first | exact trivial | refine And.intro ⟨_, rfl, ?_⟩ ?_ | refine And.intro ⟨_, rfl⟩ ?_ | rfl | exact Box.ren_bytes _ _ _ _ | exact Box.ren_vals _ _ _ _ | exact Box.ren_mid rfl)) (by exact rfl) (by exact rfl) (by repeat' (first | refine all_cons_true ?_ ?_ | rfl | exact bytes_inUse | exact vals_inUse | exact mid_inUse rfl)) (by exact rfl) (by exact rfl), i + 1, (ub, uN) :: st.drop (takes x.op), by omega, rfl, hsn, (fun w hw => by
        rcases List.mem_cons.1 hw with rfl | hw
        · exact hu2
        · exact hst2 w (List.mem_of_mem_drop hw)), by rw [hdn, hlen2]; congr 1; omega, by rw [hlen2, List.reverse_cons, ← hst']⟩
  · have e : i = l.length := by omega
    subst e
    rw [List.take_length] at hst hdep
    have hl1 : st.length = 1 := by rw [hdep1] at hdep; exact (Option.some.inj hdep).symm
    match st, hl1, hst, hst2 with
    | [(ub, uN)], _, hst, hst2 =>
    rw [hst]
    show LWP _ _ _ _ _ _
    refine LWP.le (σ' := rnSt rad ad l.length rcap cap l.length (.func (.func f) #[] caps.toArray) [(8, .sv (.one (.slc 500 0 1 3)))] [(500, some ⟨64, cI ub uN, true⟩)] X) (Le.of (by exact ⟨rfl, rfl, rfl, rfl, rfl, rfl, rfl, rfl, trivial⟩) (by exact ⟨rfl, rfl, trivial⟩) (by exact rfl) (by exact rfl) (by repeat' (first | refine all_cons_true ?_ ?_ | rfl | exact bytes_inUse | exact vals_inUse | exact mid_inUse rfl))) ?_
    (refine LWP.seq <| rgN <| klt rfl rfl (decide_eq_false (by omega)) <| RunK.nil <| LWP.seq <| LWP.condF rfl ?_; refine LWP.exit <| LWP.seq <| rgN <| kmv rfl <| K.indexSlc (off' := 0) rfl rfl (by omega) rfl .plain ?_; refine K.loadPart rfl rfl rfl rfl .plain ?_; refine K.storeAll rfl rfl rfl rfl rfl rfl .plain ?_; refine kas rfl <| RunK.nil <| LWP.ret ?_)
    exact ⟨[_, _], ⟨⟨_, _, rfl, rfl, rfl, .inl ⟨AggT.h, rfl⟩⟩, rfl, trivial⟩, rfl⟩
theorem run_len {V : Type} {one : Ins → List V → Except Int V} {okJ : Ins → Bool} : ∀ {l : List Ins} {st st' : List V} {n m : Nat}, st.length = n → dep okJ n l = some m → run one l st = .ok st' → st'.length = m
  | [], st, st', n, m, h, hd, hr => by
    simp only [dep, Option.some.injEq] at hd
    simp only [run, Except.ok.injEq] at hr
    rw [← hr, h, hd]
  | x :: l, st, st', n, m, h, hd, hr => by
    simp only [dep] at hd
    split at hd
    · rename_i c
      simp only [run] at hr
      cases ho : one x (st.take (takes x.op)).reverse with
      | error e => rw [ho] at hr; cases hr
      | ok v =>
        rw [ho] at hr
        exact run_len (n := n - takes x.op + 1) (by rw [List.length_cons, List.length_drop, h]) hd hr
    · cases hd
set_option maxHeartbeats 6400000 in
theorem gEval' (l : List Ins) (ad : Option Addr) (cap : Nat) (hin : InsIn X ad l) (hbig : l.length < 1152921504606846976) (fad : Option Addr) (fcap : Nat) (fs : List (List Nm)) (at_ : Int) (hE : EnvIn X fad fs at_) (hf2 : ∀ r ∈ fs, ∀ u ∈ r, In2 u.2) :
    PSpec Tryz.prog X 16 [Lx ad l.length cap, LEnv fad fs.length fcap at_] (exR (evX l fs at_)) := by
  have hR := tRowsOf X l ad cap hin hbig
  by_cases h : chkX l = 0
  · rw [(rs_ok h).1, (rs_ok h).2] at hR
    refine PSpec.intro Tryz.func16 rfl (by kernel_rfl) rfl (exR_closed _) ?_
    intro C
    (refine LWP.seq <| rgN <| K.box rfl rfl rfl .plain <| K.alloc rfl .plain ?_; refine kas rfl <| RunK.nil <| LWP.seq <| rgN <| kmv rfl <| K.callMp [(1000001, 500)] (.tup [.one (.slc 500 0 l.length 6), Sn .i64 0]) [(500, some ⟨0, [], .res (rowsR l)⟩)] (hR) rfl rfl (by exact trivial) rfl rfl rfl rfl rfl (by exact (.box rfl rfl .nil)) .plain <| kmv rfl <| kex rfl rfl <| kex rfl rfl <| kas rfl <| kas rfl <| RunK.nil <| LWP.seq <| LWP.seq ?_; refine rgN <| kmv rfl <| kne rfl rfl ((bne_eq_false_iff_eq.2 (by omega))) <| RunK.nil <| LWP.condF rfl ?_; refine LWP.skip ?_; refine LWP.seq ?_)
    refine LWP.le (σ' := ⟨[(6, .sv (.one (.slc 500 0 l.length 6))), (3, Lp 3), (0, Lx ad l.length cap), (4, Lp 4), (5, Ln .i64 0), (7, Ln .i64 0)], [(500, some ⟨0, [], .res (rowsR l)⟩), (3, some ⟨60, [.val (.slice fad fs.length fcap), .val (.int .i64 at_)], false⟩), (4, some ⟨64, [.val (.bool false), .val (.int .u64 0), .val (.int .u64 0)], false⟩)], X⟩) (Le.of (by exact ⟨rfl, rfl, rfl, rfl, rfl, rfl, trivial⟩) (by exact ⟨rfl, rfl, rfl, trivial⟩) (by exact rfl) (by exact rfl) (by repeat' (first | refine all_cons_true ?_ ?_ | rfl | exact bytes_inUse | exact vals_inUse | exact mid_inUse rfl))) ?_
    refine LWP.fixRes rfl rfl rfl fun ρ H rcap hRr hO _ _ => ?_
    obtain ⟨m1, m2⟩ := more_join hO
    have hrows := rows_fix hRr m2
    refine LWP.le (σ' := ⟨[(3, Lp 3), (6, Lx (some ⟨ρ.1, 0, none⟩) l.length rcap), (0, Lx ad l.length cap), (4, Lp 4), (5, Ln .i64 0), (7, Ln .i64 0)], [(3, some ⟨60, ([.slice fad fs.length fcap, .int .i64 at_] : List Value).map .val, false⟩), (4, some ⟨64, [.val (.bool false), .val (.int .u64 0), .val (.int .u64 0)], false⟩)], joinM X H⟩) (Le.of (by exact ⟨rfl, rfl, rfl, rfl, rfl, rfl, trivial⟩) (by exact ⟨rfl, rfl, trivial⟩) (by exact rfl) (by exact rfl) (by repeat' (first | refine all_cons_true ?_ ?_ | rfl | exact bytes_inUse | exact vals_inUse | exact mid_inUse rfl))) ?_
    refine LWP.freezePtr rfl rfl rfl fun eb earr efr hn hF hsp => ?_
    have m3 : MoreM (joinM X H) (withBlock (joinM X H) eb (.cells earr 60 efr)) := withBlock_old hn
    have hS := step_eval (withBlock_at (joinM X H) eb (.cells earr 60 efr)) hsp (hE.mono (m1.trans m3))
    have hP := tRunN _ l h ad cap (hin.mono (m1.trans m3)) (some ⟨ρ.1, 0, none⟩) rcap (hrows.mono m3) _ (oneX fs at_) hS (fun x hx a u ha ho => one_in2 hf2 (hin.small x hx).2.2.2 hE.place.2 ha ho) (fun x a e hl ho => one_err hl ho)
    have hev : evX l fs at_ = lastX (run (oneX fs at_) l []) := if_pos h
    rw [hev]
    cases hr : run (oneX fs at_) l [] with
    | error e =>
      have hne : e ≠ 0 := by
        have := evX_err (l := l) (fs := fs) (at_ := at_) (e := e) (by rw [hev, hr]; rfl)
        exact this
      rw [hr] at hP
      show LWP _ _ _ _ _ _
      (refine rgN <| kmv rfl <| kmv rfl <| K.makeFunc rfl rfl .plain ?_; refine kca rfl rfl hP <| kmv rfl <| kex rfl rfl <| kex rfl rfl <| K.alloc rfl .plain ?_; refine K.storeAll rfl rfl rfl rfl rfl rfl .plain ?_; refine kas rfl <| RunK.nil <| LWP.seq <| LWP.block <| LWP.seq <| rgN <| kmv rfl <| kne rfl rfl (r := true) (bne_iff_ne.2 hne) <| kas rfl <| RunK.nil <| LWP.condT rfl ?_; refine LWP.seq <| rgN <| K.build rfl rfl (by exact rfl) (by exact nl3 rfl rfl rfl rfl) .plain ?_; refine kmv rfl <| K.storeAll rfl rfl rfl rfl rfl rfl .plain ?_; refine kas rfl <| RunK.nil <| LWP.ret ?_)
      exact ⟨[_, _], ⟨⟨_, _, rfl, rfl, rfl, .inl ⟨AggT.h, rfl⟩⟩, rfl, trivial⟩, rfl⟩
    | ok st =>
      have hl1 := run_len rfl (chkX_zero h).2 hr
      match st, hl1, hr with
      | [(ub, uN)], _, hr =>
      rw [hr] at hP
      have hP : PSpec Tryz.prog (withBlock (joinM X H) eb (.cells earr 60 efr)) 35 [Lx (some ⟨ρ.1, 0, none⟩) l.length rcap, Lx ad l.length cap, .sv (.one (.val (.func (.func 36) #[] #[pv eb])))] (.tup [SI ub uN, Sn .i64 0]) := hP
      have hu2 : In2 uN := by
        obtain ⟨t, ht, hfl⟩ := parse (chkX_zero h).2
        have h5 : t.ev (oneX fs at_) = .ok (ub, uN) := by
          have h6 := run_flat (one := oneX fs at_) (t := t) (rest := []) (st := []) ht
          rw [List.append_nil, hfl, hr] at h6
          cases hv : t.ev (oneX fs at_) with
          | error e => rw [hv] at h6; cases h6
          | ok v => rw [hv] at h6; simp only [run, Except.ok.injEq, List.cons.injEq, and_true] at h6; rw [h6]
        exact tree_in2 hf2 hE.place.2 (fun x hx => (hin.small x (by rw [← hfl]; exact hx)).2.2.2) h5
      have hG := tForm (withBlock (joinM X H) eb (.cells earr 60 efr)) (ub, uN) hu2 _ rfl
      show LWP _ _ _ _ _ _
      cases hg : gd (ub, uN) with
      | false =>
        rw [hg] at hG
        rw [show lastX (.ok [(ub, uN)]) = .error 4 by unfold lastX; simp only; rw [hg]; rfl]
        (refine rgN <| kmv rfl <| kmv rfl <| K.makeFunc rfl rfl .plain ?_; refine kca rfl rfl hP <| kmv rfl <| kex rfl rfl <| kex rfl rfl <| K.alloc rfl .plain ?_; refine K.storeAll rfl rfl rfl rfl rfl rfl .plain ?_; refine kas rfl <| RunK.nil <| LWP.seq <| LWP.block <| LWP.seq <| rgN <| kmv rfl <| kne rfl rfl (r := false) rfl <| kas rfl <| RunK.nil <| LWP.condF rfl ?_; refine LWP.seq <| rgN <| K.loadAll rfl rfl rfl .plain ?_; refine kca rfl rfl (hG) <| K.not rfl rfl .plain <| kas rfl <| RunK.nil <| LWP.condT rfl ?_; refine LWP.seq <| rgN <| K.build rfl rfl (by exact rfl) (by exact nl3 rfl rfl rfl rfl) .plain ?_; refine K.storeAll rfl rfl rfl rfl rfl rfl .plain ?_; refine kas rfl <| RunK.nil <| LWP.ret ?_)
        exact ⟨[_, _], ⟨⟨_, _, rfl, rfl, rfl, .inl ⟨AggT.h, rfl⟩⟩, rfl, trivial⟩, rfl⟩
      | true =>
        rw [hg] at hG
        rw [show lastX (.ok [(ub, uN)]) = .ok (ub, uN) by unfold lastX; simp only; rw [hg]; rfl]
        (refine rgN <| kmv rfl <| kmv rfl <| K.makeFunc rfl rfl .plain ?_; refine kca rfl rfl hP <| kmv rfl <| kex rfl rfl <| kex rfl rfl <| K.alloc rfl .plain ?_; refine K.storeAll rfl rfl rfl rfl rfl rfl .plain ?_; refine kas rfl <| RunK.nil <| LWP.seq <| LWP.block <| LWP.seq <| rgN <| kmv rfl <| kne rfl rfl (r := false) rfl <| kas rfl <| RunK.nil <| LWP.condF rfl ?_; refine LWP.seq <| rgN <| K.loadAll rfl rfl rfl .plain ?_; refine kca rfl rfl (hG) <| K.not rfl rfl .plain <| kas rfl <| RunK.nil <| LWP.condF rfl ?_; refine LWP.skip ?_; refine LWP.seq <| rgN <| K.loadAll rfl rfl rfl .plain ?_; refine K.storeAll rfl rfl rfl rfl rfl rfl .plain ?_; refine kas rfl <| RunK.nil <| LWP.ret ?_)
        exact ⟨[_, _], ⟨⟨_, _, rfl, rfl, rfl, .inl ⟨AggT.h, rfl⟩⟩, rfl, trivial⟩, rfl⟩
  · rw [(rs_no h).1, (rs_no h).2] at hR
    rw [show evX l fs at_ = .error (chkX l) from if_neg h]
    refine PSpec.intro Tryz.func16 rfl (by kernel_rfl) rfl rfl ?_
    intro C
    (refine LWP.seq <| rgN <| K.box rfl rfl rfl .plain <| K.alloc rfl .plain ?_; refine kas rfl <| RunK.nil <| LWP.seq <| rgN <| kmv rfl <| K.callM [] [] (hR) rfl rfl (by exact trivial) rfl rfl rfl rfl rfl (by exact .nil) .plain <| kmv rfl <| kex rfl rfl <| kex rfl rfl <| kas rfl <| kas rfl <| RunK.nil <| LWP.seq <| LWP.seq ?_; refine rgN <| kmv rfl <| kne rfl rfl (r := true) (bne_iff_ne.2 h) <| RunK.nil <| LWP.condT rfl ?_; refine LWP.seq <| rgN <| K.build rfl rfl (by exact rfl) (by exact nl3 rfl rfl rfl rfl) .plain ?_; refine kmv rfl <| K.storeAll rfl rfl rfl rfl rfl rfl .plain ?_; refine kas rfl <| RunK.nil <| LWP.ret ?_)
    exact ⟨[_, _], ⟨⟨_, _, rfl, rfl, rfl, .inl ⟨AggT.h, rfl⟩⟩, rfl, trivial⟩, rfl⟩
end Go.Proofs.YtnfbccfghgmfiaaGreat
end
section
namespace Go.Proofs.YtnfbccfghgmfiaaGreat
open Go Go.Lg Go.Lg.Fml Go.Lg.Fld Go.Lg.Arith
set_option maxRecDepth 100000
theorem leB1o (n : Nat) : leB 1 n = [o8 (n : Nat)] := by
  simp only [leB]
  congr 1
abbrev LOp (op : Int) : LV := .sv (.agg [.val (.bool (op == 2 || op == 3)), .val (.bool (op == 2)), .val (.bool (op == 1))])
theorem op_1 : LOp 1 = .sv (.agg [.val (.bool false), .val (.bool false), .val (.bool true)]) := rfl
theorem op_2 : LOp 2 = .sv (.agg [.val (.bool true), .val (.bool true), .val (.bool false)]) := rfl
theorem op_3 : LOp 3 = .sv (.agg [.val (.bool true), .val (.bool false), .val (.bool false)]) := rfl
theorem op_no {op : Int} (h1 : op ≠ 1) (h2 : op ≠ 2) (h3 : op ≠ 3) : LOp op = .sv (.agg [.val (.bool false), .val (.bool false), .val (.bool false)]) := by
  unfold LOp
  rw [beq_eq_false_iff_ne.2 h1, beq_eq_false_iff_ne.2 h2, beq_eq_false_iff_ne.2 h3]
  rfl
variable (X : Nat → Option Obj)
set_option maxHeartbeats 6400000 in
theorem tOnly3 (A B K : Bool) (x : Ins) (hx : smallI x) : PSpec Tryz.prog X 115 [.sv (.agg [.val (.bool A), .val (.bool B), .val (.bool K)]), LIn x] (Lb ((A || (x.a == 0)) && (B || (x.b == 0)) && (K || decide (x.k = (false, 0))))) := by
  have q := eqI (b := x.k.1) (b' := false) (h := x.k.2 / 18446744073709551616) (h' := 0) (l := x.k.2 % 18446744073709551616) (l' := 0) _ (eqZ hx.2.2.2)
  rw [show decide (((x.k.1, x.k.2) : Nm) = (false, 0)) = decide (x.k = (false, 0)) from rfl] at q
  generalize hr : decide (x.k = (false, 0)) = r at *
  generalize hp : (x.a == 0) = p
  generalize hq : (x.b == 0) = s
  cases A <;> cases p <;> cases B <;> cases s <;> cases K
  all_goals
    refine PSpec.intro Tryz.func115 rfl (by kernel_rfl) rfl rfl ?_
    intro C
    (first | (refine LWP.seq <| rgN <| K.box rfl rfl rfl .plain <| K.box rfl rfl rfl .plain <| kas rfl <| RunK.nil <| LWP.seq <| rgN <| kfa rfl rfl ?_; refine kl1 rfl rfl rfl <| kmv rfl <| K.fieldAddr rfl rfl (.taken rfl rfl) ?_; refine K.loadOne rfl rfl rfl (.taken rfl rfl) ?_; refine K.eql rfl rfl hp (.taken rfl rfl) ?_; refine kpf rfl rfl <| kmv rfl <| K.fieldAddr rfl rfl (.taken rfl rfl) ?_; refine K.loadOne rfl rfl rfl (.taken rfl rfl) ?_; refine gmv rfl rfl rfl <| K.fieldAddr rfl rfl (.taken rfl rfl) ?_; refine K.loadOne rfl rfl rfl (.taken rfl rfl) ?_; refine K.eql rfl rfl hq (.taken rfl rfl) ?_; refine K.pickF rfl rfl (.taken rfl rfl) ?_; refine kpt rfl rfl <| kmv rfl <| K.fieldAddr rfl rfl (.taken rfl rfl) ?_; refine K.loadOne rfl rfl rfl (.taken rfl rfl) ?_; refine gmv rfl rfl rfl <| K.fieldAddr rfl rfl (.taken rfl rfl) ?_; refine K.loadPart rfl rfl rfl (by exact nl3 rfl rfl rfl rfl) (.taken rfl rfl) ?_; refine K.build rfl rfl (by exact rfl) (by exact nl3 rfl rfl rfl rfl) (.taken rfl rfl) ?_; refine K.aggEq rfl rfl rfl rfl (by kernel_rfl) q (.inl ⟨rfl, rfl⟩) (.taken rfl rfl) ?_; refine K.pickF rfl rfl (.taken rfl rfl) ?_; refine kpt rfl rfl <| kas rfl <| RunK.nil <| LWP.ret ?_) | (refine LWP.seq <| rgN <| K.box rfl rfl rfl .plain <| K.box rfl rfl rfl .plain <| kas rfl <| RunK.nil <| LWP.seq <| rgN <| kfa rfl rfl ?_; refine kl1 rfl rfl rfl <| kmv rfl <| K.fieldAddr rfl rfl (.taken rfl rfl) ?_; refine K.loadOne rfl rfl rfl (.taken rfl rfl) ?_; refine K.eql rfl rfl hp (.taken rfl rfl) ?_; refine kpf rfl rfl <| kmv rfl <| K.fieldAddr rfl rfl (.taken rfl rfl) ?_; refine K.loadOne rfl rfl rfl (.taken rfl rfl) ?_; refine gmv rfl rfl rfl <| RunK.passed rfl rfl rfl <| RunK.passed rfl rfl rfl <| RunK.passed rfl rfl rfl <| K.pickT rfl rfl (.taken rfl rfl) ?_; refine kpt rfl rfl <| kmv rfl <| K.fieldAddr rfl rfl (.taken rfl rfl) ?_; refine K.loadOne rfl rfl rfl (.taken rfl rfl) ?_; refine gmv rfl rfl rfl <| K.fieldAddr rfl rfl (.taken rfl rfl) ?_; refine K.loadPart rfl rfl rfl (by exact nl3 rfl rfl rfl rfl) (.taken rfl rfl) ?_; refine K.build rfl rfl (by exact rfl) (by exact nl3 rfl rfl rfl rfl) (.taken rfl rfl) ?_; refine K.aggEq rfl rfl rfl rfl (by kernel_rfl) q (.inl ⟨rfl, rfl⟩) (.taken rfl rfl) ?_; refine K.pickF rfl rfl (.taken rfl rfl) ?_; refine kpt rfl rfl <| kas rfl <| RunK.nil <| LWP.ret ?_) | (refine LWP.seq <| rgN <| K.box rfl rfl rfl .plain <| K.box rfl rfl rfl .plain <| kas rfl <| RunK.nil <| LWP.seq <| rgN <| kfa rfl rfl ?_; refine kl1 rfl rfl rfl <| kmv rfl <| RunK.passed rfl rfl rfl <| RunK.passed rfl rfl rfl <| RunK.passed rfl rfl rfl <| kpt rfl rfl <| kmv rfl <| K.fieldAddr rfl rfl (.taken rfl rfl) ?_; refine K.loadOne rfl rfl rfl (.taken rfl rfl) ?_; refine gmv rfl rfl rfl <| K.fieldAddr rfl rfl (.taken rfl rfl) ?_; refine K.loadOne rfl rfl rfl (.taken rfl rfl) ?_; refine K.eql rfl rfl hq (.taken rfl rfl) ?_; refine K.pickF rfl rfl (.taken rfl rfl) ?_; refine kpt rfl rfl <| kmv rfl <| K.fieldAddr rfl rfl (.taken rfl rfl) ?_; refine K.loadOne rfl rfl rfl (.taken rfl rfl) ?_; refine gmv rfl rfl rfl <| K.fieldAddr rfl rfl (.taken rfl rfl) ?_; refine K.loadPart rfl rfl rfl (by exact nl3 rfl rfl rfl rfl) (.taken rfl rfl) ?_; refine K.build rfl rfl (by exact rfl) (by exact nl3 rfl rfl rfl rfl) (.taken rfl rfl) ?_; refine K.aggEq rfl rfl rfl rfl (by kernel_rfl) q (.inl ⟨rfl, rfl⟩) (.taken rfl rfl) ?_; refine K.pickF rfl rfl (.taken rfl rfl) ?_; refine kpt rfl rfl <| kas rfl <| RunK.nil <| LWP.ret ?_) | (refine LWP.seq <| rgN <| K.box rfl rfl rfl .plain <| K.box rfl rfl rfl .plain <| kas rfl <| RunK.nil <| LWP.seq <| rgN <| kfa rfl rfl ?_; refine kl1 rfl rfl rfl <| kmv rfl <| RunK.passed rfl rfl rfl <| RunK.passed rfl rfl rfl <| RunK.passed rfl rfl rfl <| kpt rfl rfl <| kmv rfl <| K.fieldAddr rfl rfl (.taken rfl rfl) ?_; refine K.loadOne rfl rfl rfl (.taken rfl rfl) ?_; refine gmv rfl rfl rfl <| RunK.passed rfl rfl rfl <| RunK.passed rfl rfl rfl <| RunK.passed rfl rfl rfl <| K.pickT rfl rfl (.taken rfl rfl) ?_; refine kpt rfl rfl <| kmv rfl <| K.fieldAddr rfl rfl (.taken rfl rfl) ?_; refine K.loadOne rfl rfl rfl (.taken rfl rfl) ?_; refine gmv rfl rfl rfl <| K.fieldAddr rfl rfl (.taken rfl rfl) ?_; refine K.loadPart rfl rfl rfl (by exact nl3 rfl rfl rfl rfl) (.taken rfl rfl) ?_; refine K.build rfl rfl (by exact rfl) (by exact nl3 rfl rfl rfl rfl) (.taken rfl rfl) ?_; refine K.aggEq rfl rfl rfl rfl (by kernel_rfl) q (.inl ⟨rfl, rfl⟩) (.taken rfl rfl) ?_; refine K.pickF rfl rfl (.taken rfl rfl) ?_; refine kpt rfl rfl <| kas rfl <| RunK.nil <| LWP.ret ?_) | (refine LWP.seq <| rgN <| K.box rfl rfl rfl .plain <| K.box rfl rfl rfl .plain <| kas rfl <| RunK.nil <| LWP.seq <| rgN <| kfa rfl rfl ?_; refine kl1 rfl rfl rfl <| kmv rfl <| K.fieldAddr rfl rfl (.taken rfl rfl) ?_; refine K.loadOne rfl rfl rfl (.taken rfl rfl) ?_; refine K.eql rfl rfl hp (.taken rfl rfl) ?_; refine kpf rfl rfl <| kmv rfl <| K.fieldAddr rfl rfl (.taken rfl rfl) ?_; refine K.loadOne rfl rfl rfl (.taken rfl rfl) ?_; refine gmv rfl rfl rfl <| K.fieldAddr rfl rfl (.taken rfl rfl) ?_; refine K.loadOne rfl rfl rfl (.taken rfl rfl) ?_; refine K.eql rfl rfl hq (.taken rfl rfl) ?_; refine K.pickF rfl rfl (.taken rfl rfl) ?_; refine kpt rfl rfl <| kmv rfl <| K.fieldAddr rfl rfl (.taken rfl rfl) ?_; refine K.loadOne rfl rfl rfl (.taken rfl rfl) ?_; refine gmv rfl rfl rfl <| RunK.passed rfl rfl rfl <| RunK.passed rfl rfl rfl <| RunK.passed rfl rfl rfl <| RunK.passed rfl rfl rfl <| K.pickT rfl rfl (.taken rfl rfl) ?_; refine kpt rfl rfl <| kas rfl <| RunK.nil <| LWP.ret ?_) | (refine LWP.seq <| rgN <| K.box rfl rfl rfl .plain <| K.box rfl rfl rfl .plain <| kas rfl <| RunK.nil <| LWP.seq <| rgN <| kfa rfl rfl ?_; refine kl1 rfl rfl rfl <| kmv rfl <| K.fieldAddr rfl rfl (.taken rfl rfl) ?_; refine K.loadOne rfl rfl rfl (.taken rfl rfl) ?_; refine K.eql rfl rfl hp (.taken rfl rfl) ?_; refine kpf rfl rfl <| kmv rfl <| K.fieldAddr rfl rfl (.taken rfl rfl) ?_; refine K.loadOne rfl rfl rfl (.taken rfl rfl) ?_; refine gmv rfl rfl rfl <| RunK.passed rfl rfl rfl <| RunK.passed rfl rfl rfl <| RunK.passed rfl rfl rfl <| K.pickT rfl rfl (.taken rfl rfl) ?_; refine kpt rfl rfl <| kmv rfl <| K.fieldAddr rfl rfl (.taken rfl rfl) ?_; refine K.loadOne rfl rfl rfl (.taken rfl rfl) ?_; refine gmv rfl rfl rfl <| RunK.passed rfl rfl rfl <| RunK.passed rfl rfl rfl <| RunK.passed rfl rfl rfl <| RunK.passed rfl rfl rfl <| K.pickT rfl rfl (.taken rfl rfl) ?_; refine kpt rfl rfl <| kas rfl <| RunK.nil <| LWP.ret ?_) | (refine LWP.seq <| rgN <| K.box rfl rfl rfl .plain <| K.box rfl rfl rfl .plain <| kas rfl <| RunK.nil <| LWP.seq <| rgN <| kfa rfl rfl ?_; refine kl1 rfl rfl rfl <| kmv rfl <| RunK.passed rfl rfl rfl <| RunK.passed rfl rfl rfl <| RunK.passed rfl rfl rfl <| kpt rfl rfl <| kmv rfl <| K.fieldAddr rfl rfl (.taken rfl rfl) ?_; refine K.loadOne rfl rfl rfl (.taken rfl rfl) ?_; refine gmv rfl rfl rfl <| K.fieldAddr rfl rfl (.taken rfl rfl) ?_; refine K.loadOne rfl rfl rfl (.taken rfl rfl) ?_; refine K.eql rfl rfl hq (.taken rfl rfl) ?_; refine K.pickF rfl rfl (.taken rfl rfl) ?_; refine kpt rfl rfl <| kmv rfl <| K.fieldAddr rfl rfl (.taken rfl rfl) ?_; refine K.loadOne rfl rfl rfl (.taken rfl rfl) ?_; refine gmv rfl rfl rfl <| RunK.passed rfl rfl rfl <| RunK.passed rfl rfl rfl <| RunK.passed rfl rfl rfl <| RunK.passed rfl rfl rfl <| K.pickT rfl rfl (.taken rfl rfl) ?_; refine kpt rfl rfl <| kas rfl <| RunK.nil <| LWP.ret ?_) | (refine LWP.seq <| rgN <| K.box rfl rfl rfl .plain <| K.box rfl rfl rfl .plain <| kas rfl <| RunK.nil <| LWP.seq <| rgN <| kfa rfl rfl ?_; refine kl1 rfl rfl rfl <| kmv rfl <| K.fieldAddr rfl rfl (.taken rfl rfl) ?_; refine K.loadOne rfl rfl rfl (.taken rfl rfl) ?_; refine K.eql rfl rfl hp (.taken rfl rfl) ?_; refine kpf rfl rfl <| kmv rfl <| K.fieldAddr rfl rfl (.taken rfl rfl) ?_; refine K.loadOne rfl rfl rfl (.taken rfl rfl) ?_; refine gmv rfl rfl rfl <| K.fieldAddr rfl rfl (.taken rfl rfl) ?_; refine K.loadOne rfl rfl rfl (.taken rfl rfl) ?_; refine K.eql rfl rfl hq (.taken rfl rfl) ?_; refine K.pickF rfl rfl (.taken rfl rfl) ?_; refine kpt rfl rfl <| kmv rfl <| RunK.passed rfl rfl rfl <| RunK.passed rfl rfl rfl <| RunK.passed rfl rfl rfl <| RunK.passedU rfl rfl <| RunK.passedU rfl rfl <| RunK.passedU rfl rfl <| RunK.passedU rfl rfl <| RunK.passed rfl rfl rfl <| kpf rfl rfl <| kas rfl <| RunK.nil <| LWP.ret ?_) | (refine LWP.seq <| rgN <| K.box rfl rfl rfl .plain <| K.box rfl rfl rfl .plain <| kas rfl <| RunK.nil <| LWP.seq <| rgN <| kfa rfl rfl ?_; refine kl1 rfl rfl rfl <| kmv rfl <| RunK.passed rfl rfl rfl <| RunK.passed rfl rfl rfl <| RunK.passed rfl rfl rfl <| kpt rfl rfl <| kmv rfl <| K.fieldAddr rfl rfl (.taken rfl rfl) ?_; refine K.loadOne rfl rfl rfl (.taken rfl rfl) ?_; refine gmv rfl rfl rfl <| RunK.passed rfl rfl rfl <| RunK.passed rfl rfl rfl <| RunK.passed rfl rfl rfl <| K.pickT rfl rfl (.taken rfl rfl) ?_; refine kpt rfl rfl <| kmv rfl <| K.fieldAddr rfl rfl (.taken rfl rfl) ?_; refine K.loadOne rfl rfl rfl (.taken rfl rfl) ?_; refine gmv rfl rfl rfl <| RunK.passed rfl rfl rfl <| RunK.passed rfl rfl rfl <| RunK.passed rfl rfl rfl <| RunK.passed rfl rfl rfl <| K.pickT rfl rfl (.taken rfl rfl) ?_; refine kpt rfl rfl <| kas rfl <| RunK.nil <| LWP.ret ?_) | (refine LWP.seq <| rgN <| K.box rfl rfl rfl .plain <| K.box rfl rfl rfl .plain <| kas rfl <| RunK.nil <| LWP.seq <| rgN <| kfa rfl rfl ?_; refine kl1 rfl rfl rfl <| kmv rfl <| RunK.passed rfl rfl rfl <| RunK.passed rfl rfl rfl <| RunK.passed rfl rfl rfl <| kpt rfl rfl <| kmv rfl <| K.fieldAddr rfl rfl (.taken rfl rfl) ?_; refine K.loadOne rfl rfl rfl (.taken rfl rfl) ?_; refine gmv rfl rfl rfl <| K.fieldAddr rfl rfl (.taken rfl rfl) ?_; refine K.loadOne rfl rfl rfl (.taken rfl rfl) ?_; refine K.eql rfl rfl hq (.taken rfl rfl) ?_; refine K.pickF rfl rfl (.taken rfl rfl) ?_; refine kpt rfl rfl <| kmv rfl <| RunK.passed rfl rfl rfl <| RunK.passed rfl rfl rfl <| RunK.passed rfl rfl rfl <| RunK.passedU rfl rfl <| RunK.passedU rfl rfl <| RunK.passedU rfl rfl <| RunK.passedU rfl rfl <| RunK.passed rfl rfl rfl <| kpf rfl rfl <| kas rfl <| RunK.nil <| LWP.ret ?_) | (refine LWP.seq <| rgN <| K.box rfl rfl rfl .plain <| K.box rfl rfl rfl .plain <| kas rfl <| RunK.nil <| LWP.seq <| rgN <| kfa rfl rfl ?_; refine kl1 rfl rfl rfl <| kmv rfl <| K.fieldAddr rfl rfl (.taken rfl rfl) ?_; refine K.loadOne rfl rfl rfl (.taken rfl rfl) ?_; refine K.eql rfl rfl hp (.taken rfl rfl) ?_; refine kpf rfl rfl <| kmv rfl <| RunK.passed rfl rfl rfl <| RunK.passed rfl rfl rfl <| RunK.passed rfl rfl rfl <| RunK.passedU rfl rfl <| RunK.passedU rfl rfl <| RunK.passedU rfl rfl <| RunK.passed rfl rfl rfl <| kpf rfl rfl <| kmv rfl <| RunK.passed rfl rfl rfl <| RunK.passed rfl rfl rfl <| RunK.passed rfl rfl rfl ?_; refine RunK.passedU rfl rfl <| RunK.passedU rfl rfl <| RunK.passedU rfl rfl <| RunK.passedU rfl rfl <| RunK.passed rfl rfl rfl <| kpf rfl rfl <| kas rfl <| RunK.nil <| LWP.ret ?_))
    exact ⟨[_], ⟨rfl, trivial⟩, rfl⟩
theorem tOnly (x : Ins) (hx : smallI x) : PSpec Tryz.prog X 115 [LOp x.op, LIn x] (Lb (plainI x)) := by
  have h := tOnly3 X (x.op == 2 || x.op == 3) (x.op == 2) (x.op == 1) x hx
  have e : (((x.op == 2 || x.op == 3) || (x.a == 0)) && ((x.op == 2) || (x.b == 0)) && ((x.op == 1) || decide (x.k = (false, 0)))) = plainI x := by
    unfold plainI
    have hb : ∀ a b : Int, (a == b) = decide (a = b) := fun a b => rfl
    rw [hb, hb, hb, hb, hb]
    generalize decide (x.op = 1) = a1
    generalize decide (x.op = 2) = a2
    generalize decide (x.op = 3) = a3
    generalize decide (x.a = 0) = b1
    generalize decide (x.b = 0) = b2
    generalize decide (x.k = (false, 0)) = b3
    cases a1 <;> cases a2 <;> cases a3 <;> cases b1 <;> cases b2 <;> cases b3 <;> rfl
  rw [e] at h
  exact h
theorem ePut_0 (n : Nat) (h : n < 256) : MSpec Tryz.prog X 114 [Lp 1000000, Ln .i64 (n : Nat)] (w0 1000000) (.tup []) (w1 1000000 1000001 1000002 [o8 (n : Nat)]) := by
  have hN := WNum_0_1 X n (by omega) (by omega)
  rw [leB1o n] at hN
  refine MSpec.intro Tryz.func114 rfl (by kernel_rfl) rfl rfl (by repeat' (first | refine all_cons_true ?_ ?_ | rfl | exact bytes_inUse | exact vals_inUse | exact mid_inUse rfl)) rfl rfl ?_
  intro C
  have hw : IntKind.u64.wrap ((n : Nat) : Int) = ((n : Nat) : Int) := wrap_u64 (by omega)
  (refine rgN <| kmv rfl <| kmv rfl <| kcv rfl hw ?_; refine K.callM [(1000001, 501), (1000002, 502)] (w1 1000000 501 502 [o8 (n : Nat)]) (hN) rfl rfl (by exact (And.intro ⟨_, rfl, rfl⟩ trivial)) (by exact (all_cons_true (all_cons_true rfl (all_cons_true rfl rfl)) rfl)) rfl rfl rfl rfl (by exact (.box rfl rfl (.box rfl rfl (.box rfl rfl .nil)))) .plain <| RunK.nil ?_)
  exact ⟨[(1000001, 501), (1000002, 502)], ⟨[], trivial, rfl⟩, (by repeat' (first | exact trivial | refine And.intro ⟨_, rfl, ?_⟩ ?_ | refine And.intro ⟨_, rfl⟩ ?_ | rfl | exact Box.ren_bytes _ _ _ _ | exact Box.ren_vals _ _ _ _ | exact Box.ren_mid rfl)), rfl, rfl⟩
theorem ePut_1 (l : List UInt8) (n : Int) (h : 0 ≤ n ∧ n < 256) (hl : l.length < 900000000) : MSpec Tryz.prog X 114 [Lp 1000000, Ln .i64 n] (w1 1000000 1000001 1000002 l) (.tup []) (w1 1000000 1000001 1000003 (l ++ [o8 n]) ++ [(1000002, none)]) := by
  obtain ⟨k, rfl⟩ := Int.eq_ofNat_of_zero_le h.1
  have hk : k < 256 := by omega
  have hN := WNum_1_1 X l k (by omega) (by omega) hl
  rw [leB1o k] at hN
  refine MSpec.intro Tryz.func114 rfl (by kernel_rfl) rfl rfl (by repeat' (first | refine all_cons_true ?_ ?_ | rfl | exact bytes_inUse | exact vals_inUse | exact mid_inUse rfl)) rfl rfl ?_
  intro C
  have hw : IntKind.u64.wrap ((k : Nat) : Int) = ((k : Nat) : Int) := wrap_u64 (by omega)
  (refine rgN <| kmv rfl <| kmv rfl <| kcv rfl hw ?_; refine K.callM [(1000003, 501)] (w1 1000000 1000001 501 (l ++ [o8 (k : Nat)]) ++ [(1000002, none)]) (hN) rfl rfl (by exact (And.intro ⟨_, rfl, rfl⟩ (And.intro ⟨_, rfl, rfl⟩ (And.intro ⟨_, rfl, (Box.ren_bytes _ _ _ _)⟩ trivial)))) (by exact (all_cons_true (all_cons_true rfl (all_cons_true rfl rfl)) (all_cons_true (all_cons_true rfl rfl) (all_cons_true bytes_inUse rfl)))) rfl rfl rfl rfl (by exact (.box rfl rfl (.box rfl rfl (.box rfl (Box.ren_bytes _ _ _ _) (.dead rfl .nil))))) .plain <| RunK.nil ?_)
  exact ⟨[(1000003, 501)], ⟨[], trivial, rfl⟩, (by repeat' (first | exact trivial | refine And.intro ⟨_, rfl, ?_⟩ ?_ | refine And.intro ⟨_, rfl⟩ ?_ | rfl | exact Box.ren_bytes _ _ _ _ | exact Box.ren_vals _ _ _ _ | exact Box.ren_mid rfl)), rfl, rfl⟩
def numX (k : Nm) : List UInt8 := sgB k.1 :: (leB 8 (loW k.2) ++ leB 8 (hiW k.2))
theorem LI_words {N : Int} (h : In2 N) (b : Bool) : LI b N = Li b ((hiW N : Nat) : Int) ((loW N : Nat) : Int) := by
  obtain ⟨h1, h2, h3⟩ := words h
  unfold LI
  have e1 : N / 18446744073709551616 = ((hiW N : Nat) : Int) := by unfold In2 at h; unfold hiW; omega
  have e2 : N % 18446744073709551616 = ((loW N : Nat) : Int) := by unfold loW; omega
  rw [e1, e2]
set_option maxHeartbeats 3200000 in
theorem ePutNum (l : List UInt8) (k : Nm) (hk : In2 k.2) (hl : l.length < 800000000) : MSpec Tryz.prog X 126 [Lp 1000000, LI k.1 k.2] (w1 1000000 1000001 1000002 l) (.tup []) (w1 1000000 1000001 1000003 (l ++ numX k) ++ [(1000002, none)]) := by
  rw [LI_words hk]
  obtain ⟨_, h2, h3⟩ := words hk
  have hp : (256 : Nat) ^ 8 = 18446744073709551616 := by decide
  obtain ⟨b, N⟩ := k
  unfold numX
  simp only at hk h2 h3 ⊢
  generalize loW N = lo at *
  generalize hiW N = hi at *
  have p1 := fun n h => ePut_1 X l n h (by omega)
  have p2 := WNum_1_8 X (l ++ [sgB b]) lo (by omega) (by omega) (by rw [List.length_append, List.length_singleton]; omega)
  have p3 := WNum_1_8 X ((l ++ [sgB b]) ++ leB 8 lo) hi (by omega) (by omega) (by rw [List.length_append, List.length_append, List.length_singleton, leB_length]; omega)
  have hfin : l ++ sgB b :: (leB 8 lo ++ leB 8 hi) = ((l ++ [sgB b]) ++ leB 8 lo) ++ leB 8 hi := by simp
  rw [hfin]
  refine MSpec.intro Tryz.func126 rfl (by kernel_rfl) rfl rfl (by repeat' (first | refine all_cons_true ?_ ?_ | rfl | exact bytes_inUse | exact vals_inUse | exact mid_inUse rfl)) rfl rfl ?_
  intro C
  cases b with
  | false =>
    have p1 : MSpec Tryz.prog X 114 [Lp 1000000, Ln .i64 0] (w1 1000000 1000001 1000002 l) (.tup []) (w1 1000000 1000001 1000003 (l ++ [sgB false]) ++ [(1000002, none)]) := p1 0 ⟨by decide, by decide⟩
    (refine LWP.seq <| rgN <| K.box rfl rfl rfl .plain <| RunK.nil <| LWP.seq <| rgN <| kas rfl <| RunK.nil <| LWP.seq <| LWP.seq <| rgN <| kfa rfl rfl ?_; refine kl1 rfl rfl rfl <| RunK.nil <| LWP.condF rfl ?_; refine LWP.skip ?_; refine LWP.seq <| rgN <| kmv rfl <| kmv rfl <| K.callM [(1000003, 501)] (w1 1000000 1000001 501 (l ++ [sgB false]) ++ [(1000002, none)]) (p1) rfl rfl (by exact (And.intro ⟨_, rfl, rfl⟩ (And.intro ⟨_, rfl, rfl⟩ (And.intro ⟨_, rfl, (Box.ren_bytes _ _ _ _)⟩ trivial)))) (by exact (all_cons_true (all_cons_true rfl (all_cons_true rfl rfl)) (all_cons_true (all_cons_true rfl rfl) (all_cons_true bytes_inUse rfl)))) rfl rfl rfl rfl (by exact (.box rfl rfl (.box rfl rfl (.box rfl (Box.ren_bytes _ _ _ _) (.dead rfl .nil))))) .plain <| RunK.nil <| LWP.seq <| rgN <| kmv rfl <| kfa rfl rfl ?_; refine kl1 rfl rfl rfl <| K.callM [(1000002, 501), (1000003, 502)] (w1 1000000 1000001 502 ((l ++ [sgB false]) ++ leB 8 lo) ++ [(501, none)]) (p2) rfl rfl (by exact (And.intro ⟨_, rfl, rfl⟩ (And.intro ⟨_, rfl, rfl⟩ (And.intro ⟨_, rfl, (Box.ren_bytes _ _ _ _)⟩ trivial)))) (by exact (all_cons_true (all_cons_true rfl (all_cons_true rfl rfl)) (all_cons_true (all_cons_true rfl rfl) (all_cons_true bytes_inUse rfl)))) rfl rfl rfl rfl (by exact (.box rfl rfl (.box rfl rfl (.box rfl (Box.ren_bytes _ _ _ _) (.dead rfl .nil))))) .plain <| RunK.nil <| rgN <| kmv rfl <| kfa rfl rfl ?_; refine kl1 rfl rfl rfl <| K.callM [(1000002, 502), (1000003, 503)] (w1 1000000 1000001 503 (((l ++ [sgB false]) ++ leB 8 lo) ++ leB 8 hi) ++ [(502, none)]) (p3) rfl rfl (by exact (And.intro ⟨_, rfl, rfl⟩ (And.intro ⟨_, rfl, rfl⟩ (And.intro ⟨_, rfl, (Box.ren_bytes _ _ _ _)⟩ trivial)))) (by exact (all_cons_true (all_cons_true rfl (all_cons_true rfl rfl)) (all_cons_true (all_cons_true rfl rfl) (all_cons_true bytes_inUse rfl)))) rfl rfl rfl rfl (by exact (.box rfl rfl (.box rfl rfl (.box rfl (Box.ren_bytes _ _ _ _) (.dead rfl .nil))))) .plain <| RunK.nil ?_)
    exact ⟨[(1000003, 503)], ⟨[], trivial, rfl⟩, (by repeat' (first | exact trivial | refine And.intro ⟨_, rfl, ?_⟩ ?_ | refine And.intro ⟨_, rfl⟩ ?_ | rfl | exact Box.ren_bytes _ _ _ _ | exact Box.ren_vals _ _ _ _ | exact Box.ren_mid rfl)), rfl, rfl⟩
  | true =>
    have p1 : MSpec Tryz.prog X 114 [Lp 1000000, Ln .i64 1] (w1 1000000 1000001 1000002 l) (.tup []) (w1 1000000 1000001 1000003 (l ++ [sgB true]) ++ [(1000002, none)]) := p1 1 ⟨by decide, by decide⟩
    (refine LWP.seq <| rgN <| K.box rfl rfl rfl .plain <| RunK.nil <| LWP.seq <| rgN <| kas rfl <| RunK.nil <| LWP.seq <| LWP.seq <| rgN <| kfa rfl rfl ?_; refine kl1 rfl rfl rfl <| RunK.nil <| LWP.condT rfl ?_; refine rgN <| kas rfl <| RunK.nil <| LWP.seq <| rgN <| kmv rfl <| kmv rfl <| K.callM [(1000003, 501)] (w1 1000000 1000001 501 (l ++ [sgB true]) ++ [(1000002, none)]) (p1) rfl rfl (by exact (And.intro ⟨_, rfl, rfl⟩ (And.intro ⟨_, rfl, rfl⟩ (And.intro ⟨_, rfl, (Box.ren_bytes _ _ _ _)⟩ trivial)))) (by exact (all_cons_true (all_cons_true rfl (all_cons_true rfl rfl)) (all_cons_true (all_cons_true rfl rfl) (all_cons_true bytes_inUse rfl)))) rfl rfl rfl rfl (by exact (.box rfl rfl (.box rfl rfl (.box rfl (Box.ren_bytes _ _ _ _) (.dead rfl .nil))))) .plain <| RunK.nil <| LWP.seq <| rgN <| kmv rfl <| kfa rfl rfl ?_; refine kl1 rfl rfl rfl <| K.callM [(1000002, 501), (1000003, 502)] (w1 1000000 1000001 502 ((l ++ [sgB true]) ++ leB 8 lo) ++ [(501, none)]) (p2) rfl rfl (by exact (And.intro ⟨_, rfl, rfl⟩ (And.intro ⟨_, rfl, rfl⟩ (And.intro ⟨_, rfl, (Box.ren_bytes _ _ _ _)⟩ trivial)))) (by exact (all_cons_true (all_cons_true rfl (all_cons_true rfl rfl)) (all_cons_true (all_cons_true rfl rfl) (all_cons_true bytes_inUse rfl)))) rfl rfl rfl rfl (by exact (.box rfl rfl (.box rfl rfl (.box rfl (Box.ren_bytes _ _ _ _) (.dead rfl .nil))))) .plain <| RunK.nil <| rgN <| kmv rfl <| kfa rfl rfl ?_; refine kl1 rfl rfl rfl <| K.callM [(1000002, 502), (1000003, 503)] (w1 1000000 1000001 503 (((l ++ [sgB true]) ++ leB 8 lo) ++ leB 8 hi) ++ [(502, none)]) (p3) rfl rfl (by exact (And.intro ⟨_, rfl, rfl⟩ (And.intro ⟨_, rfl, rfl⟩ (And.intro ⟨_, rfl, (Box.ren_bytes _ _ _ _)⟩ trivial)))) (by exact (all_cons_true (all_cons_true rfl (all_cons_true rfl rfl)) (all_cons_true (all_cons_true rfl rfl) (all_cons_true bytes_inUse rfl)))) rfl rfl rfl rfl (by exact (.box rfl rfl (.box rfl rfl (.box rfl (Box.ren_bytes _ _ _ _) (.dead rfl .nil))))) .plain <| RunK.nil ?_)
    exact ⟨[(1000003, 503)], ⟨[], trivial, rfl⟩, (by repeat' (first | exact trivial | refine And.intro ⟨_, rfl, ?_⟩ ?_ | refine And.intro ⟨_, rfl⟩ ?_ | rfl | exact Box.ren_bytes _ _ _ _ | exact Box.ren_vals _ _ _ _ | exact Box.ren_mid rfl)), rfl, rfl⟩
set_option maxHeartbeats 3200000 in
theorem ePutIns (l : List UInt8) (x : Ins) (hx : smallI x) (hok : okI x = true) (hl : l.length < 700000000) : MSpec Tryz.prog X 116 [Lp 1000000, LOp x.op, LIn x] (w1 1000000 1000001 1000002 l) (.tup []) (w1 1000000 1000001 1000003 (l ++ encI x) ++ [(1000002, none)]) := by
  obtain ⟨h17, hgk, ha7, hb7⟩ := okI_facts hok
  have hk2 := hx.2.2.2
  obtain ⟨op, a, b, k⟩ := x
  simp only at h17 hgk ha7 hb7 hk2 ⊢
  have p1 := ePut_1 X l op (by omega) (by omega)
  have pa := ePut_1 X (l ++ [o8 op]) a (by omega) (by rw [List.length_append, List.length_singleton]; omega)
  have pb := ePut_1 X ((l ++ [o8 op]) ++ [o8 a]) b (by omega) (by rw [List.length_append, List.length_append, List.length_singleton, List.length_singleton]; omega)
  have pk := ePutNum X (l ++ [o8 op]) k hk2 (by rw [List.length_append, List.length_singleton]; omega)
  by_cases c1 : op = 1
  · subst c1
    rw [show encI ⟨1, a, b, k⟩ = o8 1 :: numX k from rfl, show l ++ o8 1 :: numX k = (l ++ [o8 1]) ++ numX k by simp, op_1]
    refine MSpec.intro Tryz.func116 rfl (by kernel_rfl) rfl rfl (by repeat' (first | refine all_cons_true ?_ ?_ | rfl | exact bytes_inUse | exact vals_inUse | exact mid_inUse rfl)) rfl rfl ?_
    intro C
    (refine LWP.seq <| rgN <| K.box rfl rfl rfl .plain <| K.box rfl rfl rfl .plain <| RunK.nil <| LWP.seq <| rgN <| kmv rfl <| kfa rfl rfl ?_; refine kl1 rfl rfl rfl <| K.callM [(1000003, 501)] (w1 1000000 1000001 501 (l ++ [o8 1]) ++ [(1000002, none)]) (p1) rfl rfl (by exact (And.intro ⟨_, rfl, rfl⟩ (And.intro ⟨_, rfl, rfl⟩ (And.intro ⟨_, rfl, (Box.ren_bytes _ _ _ _)⟩ trivial)))) (by exact (all_cons_true (all_cons_true rfl (all_cons_true rfl rfl)) (all_cons_true (all_cons_true rfl rfl) (all_cons_true bytes_inUse rfl)))) rfl rfl rfl rfl (by exact (.box rfl rfl (.box rfl rfl (.box rfl (Box.ren_bytes _ _ _ _) (.dead rfl .nil))))) .plain <| RunK.nil <| LWP.seq <| LWP.seq <| rgN <| kfa rfl rfl ?_; refine kl1 rfl rfl rfl <| RunK.nil <| LWP.condF rfl ?_; refine LWP.skip ?_; refine LWP.seq <| LWP.seq <| rgN <| kfa rfl rfl ?_; refine kl1 rfl rfl rfl <| RunK.nil <| LWP.condF rfl ?_; refine LWP.skip ?_; refine LWP.seq <| rgN <| kfa rfl rfl ?_; refine kl1 rfl rfl rfl <| RunK.nil <| LWP.condT rfl ?_; refine rgN <| kmv rfl <| kfa rfl rfl ?_; refine K.loadPart rfl rfl rfl (by exact nl3 rfl rfl rfl rfl) .plain ?_; refine K.callM [(1000002, 501), (1000003, 502)] (w1 1000000 1000001 502 ((l ++ [o8 1]) ++ numX k) ++ [(501, none)]) (pk) rfl rfl (by exact (And.intro ⟨_, rfl, rfl⟩ (And.intro ⟨_, rfl, rfl⟩ (And.intro ⟨_, rfl, (Box.ren_bytes _ _ _ _)⟩ trivial)))) (by exact (all_cons_true (all_cons_true rfl (all_cons_true rfl rfl)) (all_cons_true (all_cons_true rfl rfl) (all_cons_true bytes_inUse rfl)))) rfl rfl rfl rfl (by exact (.box rfl rfl (.box rfl rfl (.box rfl (Box.ren_bytes _ _ _ _) (.dead rfl .nil))))) .plain <| RunK.nil ?_)
    exact ⟨[(1000003, 502)], ⟨[], trivial, rfl⟩, (by repeat' (first | exact trivial | refine And.intro ⟨_, rfl, ?_⟩ ?_ | refine And.intro ⟨_, rfl⟩ ?_ | rfl | exact Box.ren_bytes _ _ _ _ | exact Box.ren_vals _ _ _ _ | exact Box.ren_mid rfl)), rfl, rfl⟩
  by_cases c2 : op = 2
  · subst c2
    rw [show encI ⟨2, a, b, k⟩ = [o8 2, o8 a, o8 b] from rfl, show l ++ [o8 2, o8 a, o8 b] = ((l ++ [o8 2]) ++ [o8 a]) ++ [o8 b] by simp, op_2]
    refine MSpec.intro Tryz.func116 rfl (by kernel_rfl) rfl rfl (by repeat' (first | refine all_cons_true ?_ ?_ | rfl | exact bytes_inUse | exact vals_inUse | exact mid_inUse rfl)) rfl rfl ?_
    intro C
    (refine LWP.seq <| rgN <| K.box rfl rfl rfl .plain <| K.box rfl rfl rfl .plain <| RunK.nil <| LWP.seq <| rgN <| kmv rfl <| kfa rfl rfl ?_; refine kl1 rfl rfl rfl <| K.callM [(1000003, 501)] (w1 1000000 1000001 501 (l ++ [o8 2]) ++ [(1000002, none)]) (p1) rfl rfl (by exact (And.intro ⟨_, rfl, rfl⟩ (And.intro ⟨_, rfl, rfl⟩ (And.intro ⟨_, rfl, (Box.ren_bytes _ _ _ _)⟩ trivial)))) (by exact (all_cons_true (all_cons_true rfl (all_cons_true rfl rfl)) (all_cons_true (all_cons_true rfl rfl) (all_cons_true bytes_inUse rfl)))) rfl rfl rfl rfl (by exact (.box rfl rfl (.box rfl rfl (.box rfl (Box.ren_bytes _ _ _ _) (.dead rfl .nil))))) .plain <| RunK.nil <| LWP.seq <| LWP.seq <| rgN <| kfa rfl rfl ?_; refine kl1 rfl rfl rfl <| RunK.nil <| LWP.condT rfl ?_; refine rgN <| kmv rfl <| kfa rfl rfl ?_; refine kl1 rfl rfl rfl <| K.callM [(1000002, 501), (1000003, 502)] (w1 1000000 1000001 502 ((l ++ [o8 2]) ++ [o8 a]) ++ [(501, none)]) (pa) rfl rfl (by exact (And.intro ⟨_, rfl, rfl⟩ (And.intro ⟨_, rfl, rfl⟩ (And.intro ⟨_, rfl, (Box.ren_bytes _ _ _ _)⟩ trivial)))) (by exact (all_cons_true (all_cons_true rfl (all_cons_true rfl rfl)) (all_cons_true (all_cons_true rfl rfl) (all_cons_true bytes_inUse rfl)))) rfl rfl rfl rfl (by exact (.box rfl rfl (.box rfl rfl (.box rfl (Box.ren_bytes _ _ _ _) (.dead rfl .nil))))) .plain <| RunK.nil <| LWP.seq <| LWP.seq <| rgN <| kfa rfl rfl ?_; refine kl1 rfl rfl rfl <| RunK.nil <| LWP.condT rfl ?_; refine rgN <| kmv rfl <| kfa rfl rfl ?_; refine kl1 rfl rfl rfl <| K.callM [(1000002, 502), (1000003, 503)] (w1 1000000 1000001 503 (((l ++ [o8 2]) ++ [o8 a]) ++ [o8 b]) ++ [(502, none)]) (pb) rfl rfl (by exact (And.intro ⟨_, rfl, rfl⟩ (And.intro ⟨_, rfl, rfl⟩ (And.intro ⟨_, rfl, (Box.ren_bytes _ _ _ _)⟩ trivial)))) (by exact (all_cons_true (all_cons_true rfl (all_cons_true rfl rfl)) (all_cons_true (all_cons_true rfl rfl) (all_cons_true bytes_inUse rfl)))) rfl rfl rfl rfl (by exact (.box rfl rfl (.box rfl rfl (.box rfl (Box.ren_bytes _ _ _ _) (.dead rfl .nil))))) .plain <| RunK.nil <| LWP.seq <| rgN <| kfa rfl rfl ?_; refine kl1 rfl rfl rfl <| RunK.nil <| LWP.condF rfl ?_; refine LWP.skip ?_)
    exact ⟨[(1000003, 503)], ⟨[], trivial, rfl⟩, (by repeat' (first | exact trivial | refine And.intro ⟨_, rfl, ?_⟩ ?_ | refine And.intro ⟨_, rfl⟩ ?_ | rfl | exact Box.ren_bytes _ _ _ _ | exact Box.ren_vals _ _ _ _ | exact Box.ren_mid rfl)), rfl, rfl⟩
  by_cases c3 : op = 3
  · subst c3
    rw [show encI ⟨3, a, b, k⟩ = [o8 3, o8 a] from rfl, show l ++ [o8 3, o8 a] = (l ++ [o8 3]) ++ [o8 a] by simp, op_3]
    refine MSpec.intro Tryz.func116 rfl (by kernel_rfl) rfl rfl (by repeat' (first | refine all_cons_true ?_ ?_ | rfl | exact bytes_inUse | exact vals_inUse | exact mid_inUse rfl)) rfl rfl ?_
    intro C
    (refine LWP.seq <| rgN <| K.box rfl rfl rfl .plain <| K.box rfl rfl rfl .plain <| RunK.nil <| LWP.seq <| rgN <| kmv rfl <| kfa rfl rfl ?_; refine kl1 rfl rfl rfl <| K.callM [(1000003, 501)] (w1 1000000 1000001 501 (l ++ [o8 3]) ++ [(1000002, none)]) (p1) rfl rfl (by exact (And.intro ⟨_, rfl, rfl⟩ (And.intro ⟨_, rfl, rfl⟩ (And.intro ⟨_, rfl, (Box.ren_bytes _ _ _ _)⟩ trivial)))) (by exact (all_cons_true (all_cons_true rfl (all_cons_true rfl rfl)) (all_cons_true (all_cons_true rfl rfl) (all_cons_true bytes_inUse rfl)))) rfl rfl rfl rfl (by exact (.box rfl rfl (.box rfl rfl (.box rfl (Box.ren_bytes _ _ _ _) (.dead rfl .nil))))) .plain <| RunK.nil <| LWP.seq <| LWP.seq <| rgN <| kfa rfl rfl ?_; refine kl1 rfl rfl rfl <| RunK.nil <| LWP.condT rfl ?_; refine rgN <| kmv rfl <| kfa rfl rfl ?_; refine kl1 rfl rfl rfl <| K.callM [(1000002, 501), (1000003, 502)] (w1 1000000 1000001 502 ((l ++ [o8 3]) ++ [o8 a]) ++ [(501, none)]) (pa) rfl rfl (by exact (And.intro ⟨_, rfl, rfl⟩ (And.intro ⟨_, rfl, rfl⟩ (And.intro ⟨_, rfl, (Box.ren_bytes _ _ _ _)⟩ trivial)))) (by exact (all_cons_true (all_cons_true rfl (all_cons_true rfl rfl)) (all_cons_true (all_cons_true rfl rfl) (all_cons_true bytes_inUse rfl)))) rfl rfl rfl rfl (by exact (.box rfl rfl (.box rfl rfl (.box rfl (Box.ren_bytes _ _ _ _) (.dead rfl .nil))))) .plain <| RunK.nil <| LWP.seq <| LWP.seq <| rgN <| kfa rfl rfl ?_; refine kl1 rfl rfl rfl <| RunK.nil <| LWP.condF rfl ?_; refine LWP.skip ?_; refine LWP.seq <| rgN <| kfa rfl rfl ?_; refine kl1 rfl rfl rfl <| RunK.nil <| LWP.condF rfl ?_; refine LWP.skip ?_)
    exact ⟨[(1000003, 502)], ⟨[], trivial, rfl⟩, (by repeat' (first | exact trivial | refine And.intro ⟨_, rfl, ?_⟩ ?_ | refine And.intro ⟨_, rfl⟩ ?_ | rfl | exact Box.ren_bytes _ _ _ _ | exact Box.ren_vals _ _ _ _ | exact Box.ren_mid rfl)), rfl, rfl⟩
  rw [show encI ⟨op, a, b, k⟩ = [o8 op] by unfold encI; simp only; rw [if_neg c1, if_neg c2, if_neg c3], op_no c1 c2 c3]
  refine MSpec.intro Tryz.func116 rfl (by kernel_rfl) rfl rfl (by repeat' (first | refine all_cons_true ?_ ?_ | rfl | exact bytes_inUse | exact vals_inUse | exact mid_inUse rfl)) rfl rfl ?_
  intro C
  (refine LWP.seq <| rgN <| K.box rfl rfl rfl .plain <| K.box rfl rfl rfl .plain <| RunK.nil <| LWP.seq <| rgN <| kmv rfl <| kfa rfl rfl ?_; refine kl1 rfl rfl rfl <| K.callM [(1000003, 501)] (w1 1000000 1000001 501 (l ++ [o8 op]) ++ [(1000002, none)]) (p1) rfl rfl (by exact (And.intro ⟨_, rfl, rfl⟩ (And.intro ⟨_, rfl, rfl⟩ (And.intro ⟨_, rfl, (Box.ren_bytes _ _ _ _)⟩ trivial)))) (by exact (all_cons_true (all_cons_true rfl (all_cons_true rfl rfl)) (all_cons_true (all_cons_true rfl rfl) (all_cons_true bytes_inUse rfl)))) rfl rfl rfl rfl (by exact (.box rfl rfl (.box rfl rfl (.box rfl (Box.ren_bytes _ _ _ _) (.dead rfl .nil))))) .plain <| RunK.nil <| LWP.seq <| LWP.seq <| rgN <| kfa rfl rfl ?_; refine kl1 rfl rfl rfl <| RunK.nil <| LWP.condF rfl ?_; refine LWP.skip ?_; refine LWP.seq <| LWP.seq <| rgN <| kfa rfl rfl ?_; refine kl1 rfl rfl rfl <| RunK.nil <| LWP.condF rfl ?_; refine LWP.skip ?_; refine LWP.seq <| rgN <| kfa rfl rfl ?_; refine kl1 rfl rfl rfl <| RunK.nil <| LWP.condF rfl ?_; refine LWP.skip ?_)
  exact ⟨[(1000003, 501)], ⟨[], trivial, rfl⟩, (by repeat' (first | exact trivial | refine And.intro ⟨_, rfl, ?_⟩ ?_ | refine And.intro ⟨_, rfl⟩ ?_ | rfl | exact Box.ren_bytes _ _ _ _ | exact Box.ren_vals _ _ _ _ | exact Box.ren_mid rfl)), rfl, rfl⟩
abbrev enSt (rad ad : Option Addr) (n rcap cap i : Nat) (B : List UInt8) (Y : Nat → Option Obj) : St :=
  ⟨[(0, Lx ad n cap), (6, Lp 18), (23, Lx rad n rcap), (24, Ln .i64 (n : Nat)), (25, Ln .i64 (i : Nat))], w1 18 601 500 B, Y⟩
set_option maxHeartbeats 6400000 in
theorem gEncode' (l : List Ins) (ad : Option Addr) (cap : Nat) (hin : InsIn X ad l) (hbig : l.length < 1152921504606846976) : PSpec Tryz.prog X 90 [Lx ad l.length cap] (.tup [Ss (encTX l), Sn .i64 (encErr l)]) := by
  have hR := tRowsOf X l ad cap hin hbig
  refine PSpec.intro Tryz.func90 rfl (by kernel_rfl) rfl rfl ?_
  intro C
  by_cases h : chkX l = 0
  · rw [(rs_ok h).1, (rs_ok h).2] at hR
    have h64 := (chkX_zero h).1
    have hall := chkX_ok h
    (refine LWP.seq <| rgN <| kas rfl <| kas rfl <| RunK.nil <| LWP.seq <| rgN <| kmv rfl <| K.callMp [(1000001, 500)] (.tup [.one (.slc 500 0 l.length 6), Sn .i64 0]) [(500, some ⟨0, [], .res (rowsR l)⟩)] (hR) rfl rfl (by exact trivial) rfl rfl rfl rfl rfl (by exact (.box rfl rfl .nil)) .plain <| kmv rfl <| kex rfl rfl <| kex rfl rfl <| kas rfl <| kas rfl ?_; refine RunK.nil <| LWP.seq <| LWP.seq <| rgN <| kmv rfl <| kne rfl rfl ((bne_eq_false_iff_eq.2 (by omega))) <| RunK.nil <| LWP.condF rfl ?_; refine LWP.skip ?_; refine LWP.seq ?_)
    refine LWP.le (σ' := ⟨[(4, .sv (.one (.slc 500 0 l.length 6))), (0, Lx ad l.length cap)], [(500, some ⟨0, [], .res (rowsR l)⟩)], X⟩) (Le.of (by exact ⟨rfl, rfl, trivial⟩) (by exact ⟨rfl, trivial⟩) (by exact rfl) (by exact rfl) (by repeat' (first | refine all_cons_true ?_ ?_ | rfl | exact bytes_inUse | exact vals_inUse | exact mid_inUse rfl))) ?_
    refine LWP.fixRes rfl rfl rfl fun ρ H rcap hRr hO _ _ => ?_
    obtain ⟨m1, m2⟩ := more_join hO
    have hrows := rows_fix hRr m2
    replace hin := hin.mono m1
    generalize joinM X H = Y at *
    have p1 := ePut_0 Y l.length (by omega)
    (refine rgN <| K.build rfl rfl (by exact rfl) (by exact nl2 rfl rfl rfl) .plain ?_; refine K.box rfl rfl rfl .plain <| kas rfl <| RunK.nil <| LWP.seq <| rgN <| kmv rfl <| kmv rfl <| K.lenX rfl SliceT.h rfl .plain ?_; refine K.callM [(1000000, 18), (1000001, 601), (1000002, 602)] (w1 18 601 602 [o8 (l.length : Nat)]) (p1) rfl rfl (by exact (And.intro ⟨_, rfl, rfl⟩ trivial)) (by exact (all_cons_true (all_cons_true rfl (all_cons_true rfl rfl)) rfl)) rfl rfl rfl rfl (by exact (.box rfl rfl (.box rfl rfl (.box rfl rfl .nil)))) .plain <| RunK.nil <| LWP.seq <| LWP.seq <| rgN <| kmv rfl <| K.lenX rfl SliceT.h rfl .plain ?_; refine kmv rfl <| RunK.nil <| LWP.block ?_)
    refine LWP.loop (fun m σ => ∃ i : Nat, i ≤ l.length ∧ m = l.length - i ∧ (∀ x ∈ l.take i, plainI x = true) ∧ σ = enSt (some ⟨ρ.1, 0, none⟩) ad l.length rcap cap i (o8 (l.length : Nat) :: encIs (l.take i)) Y) l.length
      ⟨enSt (some ⟨ρ.1, 0, none⟩) ad l.length rcap cap 0 (o8 (l.length : Nat) :: encIs (l.take 0)) Y, Le.ofR [(500, 602)] (by exact ⟨rfl, rfl, rfl, rfl, rfl, trivial⟩) (by repeat' (first | exact trivial | refine And.intro ⟨_, rfl, ?_⟩ ?_ | refine And.intro ⟨_, rfl⟩ ?_ | rfl | exact Box.ren_bytes _ _ _ _ | exact Box.ren_vals _ _ _ _ | exact Box.ren_mid rfl)) (by exact rfl) (by exact rfl) (by repeat' (first | refine all_cons_true ?_ ?_ | rfl | exact bytes_inUse | exact vals_inUse | exact mid_inUse rfl)) (by exact rfl) (by exact rfl), 0, Nat.zero_le _, rfl, fun x hx => absurd hx (by simp), rfl⟩ ?_
    rintro m σ ⟨i, hi, rfl, hpl, rfl⟩
    have hBl := encIs_len (l.take i)
    rw [List.length_take] at hBl
    by_cases hlt : i < l.length
    · obtain ⟨x, hx⟩ : ∃ x, l[i]? = some x := ⟨_, List.getElem?_eq_getElem hlt⟩
      have hmem := List.mem_of_getElem? hx
      have hsx := hin.small x hmem
      have hok := hall x hmem
      obtain ⟨rblk, roff, rarr, rel, rfr, dv, hrad, hXr, hszr, hcsr, hDv⟩ := hrows.at hx
      simp only [Option.some.injEq, Addr.mk.injEq] at hrad
      obtain ⟨rfl, rfl, _⟩ := hrad
      obtain ⟨g, gcaps, egv, _⟩ := id hDv
      subst egv
      obtain ⟨blk, off, arr, el, fr, rfl, hX, hsz, hcs, hop⟩ := hin.at hx
      have hio : off + Int.toNat (i : Int) * 6 = off + i * 6 := by simp
      have hior : 0 + Int.toNat (i : Int) * 6 = 0 + i * 6 := by simp
      have hin0 : 0 ≤ (i : Int) ∧ (i : Int) < (l.length : Nat) := by omega
      have hO := tOnly Y x hsx
      cases hp : plainI x with
      | false =>
        have he : encErr l = 1 := by
          unfold encErr
          rw [if_pos h, if_neg]
          intro ha
          have := List.all_eq_true.1 ha x hmem
          rw [hp] at this
          cases this
        rw [show encTX l = [] by unfold encTX; rw [he]; rfl, he]
        rw [hp] at hO
        (refine LWP.seq <| rgN <| klt rfl rfl (decide_eq_true (by omega)) <| RunK.nil <| LWP.seq <| LWP.condT rfl ?_; refine LWP.skip ?_; refine LWP.seq <| LWP.block <| LWP.seq <| rgN <| kmv rfl <| K.indexX rfl rfl SliceT.h hin0 hior .plain <| K.loadXagg rfl hXr (by kernel_rfl) hszr hcsr .plain <| K.alloc rfl .plain ?_; refine kas rfl <| K.storeAll rfl rfl rfl rfl rfl rfl .plain ?_; refine RunK.nil <| LWP.seq <| LWP.seq <| rgD mixed <| kfa rfl rfl ?_; refine K.loadPart rfl rfl rfl rfl .plain ?_; refine kmv rfl <| kmv rfl <| K.indexX rfl rfl SliceT.h hin0 hio .plain <| K.loadXagg rfl hX (by kernel_rfl) hsz hcs .plain <| kca rfl rfl hO <| K.not rfl rfl .plain <| RunK.nil <| rgA ?_; refine LWP.condT rfl ?_; refine LWP.seq <| rgN <| kas rfl <| kas rfl <| RunK.nil <| LWP.ret ?_)
        exact ⟨[_, _], ⟨rfl, rfl, trivial⟩, rfl⟩
      | true =>
        rw [hp] at hO
        have hnext : o8 (l.length : Nat) :: encIs (l.take (i + 1)) = (o8 (l.length : Nat) :: encIs (l.take i)) ++ encI x := by
          rw [List.take_add_one, hx, encIs_app]
          simp [encIs]
        have q := ePutIns Y (o8 (l.length : Nat) :: encIs (l.take i)) x hsx hok (by rw [List.length_cons]; omega)
        rw [← hnext] at q
        have hinc : IntKind.i64.wrap (((i : Nat) : Int) + 1) = ((i + 1 : Nat) : Int) := by rw [wrap_i64 (by omega)]; omega
        (refine LWP.seq <| rgN <| klt rfl rfl (decide_eq_true (by omega)) <| RunK.nil <| LWP.seq <| LWP.condT rfl ?_; refine LWP.skip ?_; refine LWP.seq <| LWP.block <| LWP.seq <| rgN <| kmv rfl <| K.indexX rfl rfl SliceT.h hin0 hior .plain <| K.loadXagg rfl hXr (by kernel_rfl) hszr hcsr .plain <| K.alloc rfl .plain ?_; refine kas rfl <| K.storeAll rfl rfl rfl rfl rfl rfl .plain ?_; refine RunK.nil <| LWP.seq <| LWP.seq <| rgD mixed <| kfa rfl rfl ?_; refine K.loadPart rfl rfl rfl rfl .plain ?_; refine kmv rfl <| kmv rfl <| K.indexX rfl rfl SliceT.h hin0 hio .plain <| K.loadXagg rfl hX (by kernel_rfl) hsz hcs .plain <| kca rfl rfl hO <| K.not rfl rfl .plain <| RunK.nil <| rgA ?_; refine LWP.condF rfl ?_; refine LWP.skip ?_; refine rgD mixed <| kmv rfl <| kfa rfl rfl ?_; refine K.loadPart rfl rfl rfl rfl .plain ?_; refine kmv rfl <| kmv rfl <| K.indexX rfl rfl SliceT.h hin0 hio .plain <| K.loadXagg rfl hX (by kernel_rfl) hsz hcs .plain <| K.callM [(1000000, 18), (1000001, 601), (1000002, 500), (1000003, 605)] (w1 18 601 605 (o8 (l.length : Nat) :: encIs (l.take (i + 1))) ++ [(500, none)]) (q) rfl rfl (by exact (And.intro ⟨_, rfl, rfl⟩ (And.intro ⟨_, rfl, rfl⟩ (And.intro ⟨_, rfl, (Box.ren_bytes _ _ _ _)⟩ trivial)))) (by exact (all_cons_true (all_cons_true rfl (all_cons_true rfl rfl)) (all_cons_true (all_cons_true rfl rfl) (all_cons_true (all_cons_true rfl bytes_inUse) rfl)))) rfl rfl rfl rfl (by exact (.box rfl rfl (.box rfl rfl (.box rfl (Box.ren_bytes _ _ _ _) (.dead rfl .nil))))) .plain <| RunK.nil <| rgA ?_; refine rgN <| kad rfl rfl hinc <| kmv rfl <| RunK.nil ?_)
        exact ⟨_, enSt (some ⟨ρ.1, 0, none⟩) (some ⟨blk, off, none⟩) l.length rcap cap (i + 1) (o8 (l.length : Nat) :: encIs (l.take (i + 1))) Y, by omega, Le.ofR [(500, 605)] (by exact ⟨rfl, rfl, rfl, rfl, rfl, trivial⟩) (by repeat' (first | exact trivial | refine And.intro ⟨_, rfl, ?_⟩ ?_ | refine And.intro ⟨_, rfl⟩ ?_ | rfl | exact Box.ren_bytes _ _ _ _ | exact Box.ren_vals _ _ _ _ | exact Box.ren_mid rfl)) (by exact rfl) (by exact rfl) (by repeat' (first | refine all_cons_true ?_ ?_ | rfl | exact bytes_inUse | exact vals_inUse | exact mid_inUse rfl)) (by exact rfl) (by exact rfl), i + 1, by omega, rfl, (fun y hy => by
          rw [List.take_add_one, hx] at hy
          rcases List.mem_append.1 hy with hy | hy
          · exact hpl y hy
          · simp only [Option.toList_some, List.mem_singleton] at hy; rw [hy]; exact hp), rfl⟩
    · have e : i = l.length := by omega
      subst e
      rw [List.take_length] at hpl
      have he : encErr l = 0 := by
        unfold encErr
        rw [if_pos h, if_pos (List.all_eq_true.2 hpl)]
      rw [show encTX l = o8 (l.length : Nat) :: encIs l by unfold encTX; rw [if_pos he]; rfl, he, List.take_length]
      have q := String_1 Y (o8 (l.length : Nat) :: encIs l)
      (refine LWP.seq <| rgN <| klt rfl rfl (decide_eq_false (by omega)) <| RunK.nil <| LWP.seq <| LWP.condF rfl ?_; refine LWP.exit <| LWP.seq <| rgN <| kmv rfl <| K.callM [(1000000, 18), (1000001, 601), (1000002, 500)] (w1 18 601 500 (o8 (l.length : Nat) :: encIs l)) (q) rfl rfl (by exact (And.intro ⟨_, rfl, rfl⟩ (And.intro ⟨_, rfl, rfl⟩ (And.intro ⟨_, rfl, (Box.ren_bytes _ _ _ _)⟩ trivial)))) (by exact (all_cons_true (all_cons_true rfl (all_cons_true rfl rfl)) (all_cons_true (all_cons_true rfl rfl) (all_cons_true (all_cons_true rfl bytes_inUse) rfl)))) rfl rfl rfl rfl (by exact (.box rfl rfl (.box rfl rfl (.box rfl (Box.ren_bytes _ _ _ _) .nil)))) .plain <| kas rfl <| kas rfl <| RunK.nil <| LWP.ret ?_)
      exact ⟨[_, _], ⟨rfl, rfl, trivial⟩, rfl⟩
  · rw [(rs_no h).1, (rs_no h).2] at hR
    have he : encErr l = chkX l := if_neg h
    rw [show encTX l = [] by unfold encTX; rw [he, if_neg h], he]
    (refine LWP.seq <| rgN <| kas rfl <| kas rfl <| RunK.nil <| LWP.seq <| rgN <| kmv rfl <| K.callM [] [] (hR) rfl rfl (by exact trivial) rfl rfl rfl rfl rfl (by exact .nil) .plain <| kmv rfl <| kex rfl rfl <| kex rfl rfl <| kas rfl <| kas rfl ?_; refine RunK.nil <| LWP.seq <| LWP.seq <| rgN <| kmv rfl <| kne rfl rfl (r := true) (bne_iff_ne.2 h) <| RunK.nil <| LWP.condT rfl ?_; refine LWP.seq <| rgN <| kmv rfl <| kas rfl <| kas rfl <| RunK.nil <| LWP.ret ?_)
    exact ⟨[_, _], ⟨rfl, rfl, trivial⟩, rfl⟩
end Go.Proofs.YtnfbccfghgmfiaaGreat
end
section
namespace Go.Proofs.YtnfbccfghgmfiaaGreat
open Go Go.Lg Go.Lg.Fml Go.Lg.Fld Go.Lg.Arith
set_option maxRecDepth 100000
def eS : List UInt8 × Bool → UInt8 × List UInt8 × Bool
  | (c :: t, false) => (c, t, false)
  | (l, _) => (0, l, true)
def eW : List UInt8 × Bool → Nat × List UInt8 × Bool
  | (l, b) => if b = false ∧ 8 ≤ l.length then (le (l.take 8), l.drop 8, false) else (0, l, true)
def eN (x : List UInt8 × Bool) : (Nm × Bool) × List UInt8 × Bool :=
  if 1 < (eS x).1.toNat then (((false, 0), false), (eS x).2)
  else (((decide ((eS x).1.toNat = 1), (((eW (eS x).2).1 + 18446744073709551616 * (eW (eW (eS x).2).2).1 : Nat) : Int)), true), (eW (eW (eS x).2).2).2)
def Lss (x y : List UInt8 × Bool) : Prop := y.1.length ≤ x.1.length ∧ (x.2 = true → y.2 = true)
variable (X : Nat → Option Obj)
end Go.Proofs.YtnfbccfghgmfiaaGreat
end
section
namespace Go.Proofs.YtnfbccfghgmfiaaGreat
open Go Go.Lg Go.Lg.Fml Go.Lg.Fld Go.Lg.Arith
set_option maxRecDepth 100000
variable (X : Nat → Option Obj)
abbrev usSt (ad : Option Addr) (n cap i : Nat) (q : List Ins) (r : Bool) (Y : Nat → Option Obj) : St :=
  ⟨[(0, Lx ad n cap), (3, .sv (.one (.slc 500 0 q.length 6))), (7, Lx ad n cap), (8, Ln .i64 (n : Nat)), (9, Ln .i64 (i : Nat))], [(500, some ⟨66, (inssV q).map .val, r⟩)], Y⟩
theorem uses_take {l : List Ins} {i : Nat} {x : Ins} (hx : l[i]? = some x) : usesX (l.take (i + 1)) = if (x.op == 2 || x.op == 3) = true then usesX (l.take i) ++ [x] else usesX (l.take i) := by
  unfold usesX
  rw [List.take_add_one, hx, List.filter_append]
  simp only [Option.toList_some, List.filter_cons, List.filter_nil]
  split <;> simp
theorem uses_le (l : List Ins) : (usesX l).length ≤ l.length := List.length_filter_le _ _
set_option maxHeartbeats 6400000 in
theorem gUses' (l : List Ins) (ad : Option Addr) (cap : Nat) (hin : InsIn X ad l) (hl : l.length ≤ 1000) : MSpec Tryz.prog X 20 [Lx ad l.length cap] [] (.sv (.one (.slc 1000001 0 (usesX l).length 6))) [(1000001, some ⟨66, (inssV (usesX l)).map .val, true⟩)] := by
  refine MSpec.intro Tryz.func20 rfl (by kernel_rfl) rfl (by exact (by repeat' (first | refine all_cons_true ?_ ?_ | rfl | exact bytes_inUse | exact vals_inUse | exact mid_inUse rfl))) (by exact (by repeat' (first | refine all_cons_true ?_ ?_ | rfl | exact bytes_inUse | exact vals_inUse | exact mid_inUse rfl))) rfl rfl ?_
  intro C
  refine LWP.ends ?_
  (refine LWP.seq <| rgN <| kas rfl <| RunK.nil <| LWP.seq <| rgN <| K.buildSlc (zs := []) (sz := 6) (e := 66) (by kernel_rfl) rfl rfl rfl rfl rfl rfl .plain <| kas rfl <| RunK.nil <| LWP.seq <| LWP.seq <| rgN <| kmv rfl <| K.lenX rfl SliceT.h rfl .plain ?_; refine kmv rfl <| RunK.nil <| LWP.block ?_)
  refine LWP.loop (fun m σ => ∃ (i : Nat) (r : Bool), i ≤ l.length ∧ m = l.length - i ∧ σ = usSt ad l.length cap i (usesX (l.take i)) r X) l.length
    ⟨usSt ad l.length cap 0 (usesX (l.take 0)) false X, Le.ofR [(500, 6)] (by exact ⟨rfl, rfl, rfl, rfl, rfl, trivial⟩) (by repeat' (first | exact trivial | refine And.intro ⟨_, rfl, ?_⟩ ?_ | refine And.intro ⟨_, rfl⟩ ?_ | rfl | exact Box.ren_bytes _ _ _ _ | exact Box.ren_vals _ _ _ _ | exact Box.ren_mid rfl)) (by exact rfl) (by exact rfl) (by repeat' (first | refine all_cons_true ?_ ?_ | rfl | exact bytes_inUse | exact vals_inUse | exact mid_inUse rfl)) (by exact rfl) (by exact rfl), 0, false, by omega, by omega, rfl⟩ ?_
  rintro m σ ⟨i, r, hi, rfl, rfl⟩
  by_cases hlt : i < l.length
  · obtain ⟨x, hx⟩ : ∃ x, l[i]? = some x := ⟨_, List.getElem?_eq_getElem hlt⟩
    obtain ⟨blk, off, arr, el, fr, rfl, hX, hsz, hcs, hop⟩ := hin.at hx
    have hio : off + Int.toNat (i : Int) * 6 = off + i * 6 := by simp
    have hin0 : 0 ≤ (i : Int) ∧ (i : Int) < (l.length : Nat) := by omega
    have hut := uses_take hx
    have hul := uses_le (l.take i)
    rw [List.length_take] at hul
    have hinc : IntKind.i64.wrap (((i : Nat) : Int) + 1) = ((i + 1 : Nat) : Int) := by rw [wrap_i64 (by omega)]; omega
    by_cases h2 : x.op = 2
    · rw [if_pos (by rw [beq_iff_eq.2 h2]; rfl)] at hut
      generalize usesX (l.take i) = q at *
      have hcl := inssV_len q
      have hnc : (inssV q).map CV.val ++ (insV x).map CV.val = (inssV (q ++ [x])).map CV.val := inssV_snoc q x rfl
      have hnl : q.length + 1 = (q ++ [x]).length := by rw [List.length_append]; rfl
      (refine LWP.seq <| rgN <| klt rfl rfl (decide_eq_true (by omega)) <| RunK.nil <| LWP.seq <| LWP.condT rfl ?_; refine LWP.skip ?_; refine LWP.seq <| LWP.block <| LWP.seq <| rgN <| K.indexX rfl rfl SliceT.h hin0 hio .plain <| K.loadXagg rfl hX (by kernel_rfl) hsz hcs .plain <| K.alloc rfl .plain ?_; refine K.storeAll rfl rfl rfl rfl rfl rfl .plain ?_; refine RunK.nil <| LWP.seq <| rgN <| kfa rfl rfl ?_; refine kl1 rfl rfl rfl <| keq rfl rfl (r := true) (beq_iff_eq.2 h2) <| kmv rfl <| RunK.passed rfl rfl rfl <| RunK.passed rfl rfl rfl <| RunK.passed rfl rfl rfl <| kpt rfl rfl <| RunK.nil <| LWP.condT rfl ?_; refine rgN <| kmv rfl <| K.loadAll rfl rfl rfl .plain ?_; refine K.buildSlc (zs := [Value.int .i64 0, .int .i64 0, .int .i64 0, .bool false, .int .u64 0, .int .u64 0]) (sz := 6) (e := 66) (cs' := (insV x).map .val) (by kernel_rfl) rfl rfl rfl rfl rfl rfl .plain <| K.appendSlc (by_ := 48) (e2 := 66) (l2 := (insV x).map .val) (nl := (q ++ [x]).length) (nc := (inssV (q ++ [x])).map .val) rfl rfl hcl rfl rfl (Nat.le_refl _) rfl rfl (by kernel_rfl) (by kernel_rfl) (by omega) (by omega) rfl hnl hnc .plain <| kas rfl <| RunK.nil <| rgN <| kad rfl rfl hinc <| kmv rfl <| RunK.nil ?_)
      exact ⟨_, usSt (some ⟨blk, off, none⟩) l.length cap (i + 1) (q ++ [x]) true X, by omega, Le.ofR [(500, 24)] (by exact ⟨rfl, rfl, rfl, rfl, rfl, trivial⟩) (by repeat' (first | exact trivial | refine And.intro ⟨_, rfl, ?_⟩ ?_ | refine And.intro ⟨_, rfl⟩ ?_ | rfl | exact Box.ren_bytes _ _ _ _ | exact Box.ren_vals _ _ _ _ | exact Box.ren_mid rfl)) (by exact rfl) (by exact rfl) (by repeat' (first | refine all_cons_true ?_ ?_ | rfl | exact bytes_inUse | exact vals_inUse | exact mid_inUse rfl)) (by exact rfl) (by exact rfl), i + 1, true, by omega, rfl, by rw [hut]⟩
    · by_cases h3 : x.op = 3
      · rw [if_pos (by rw [beq_iff_eq.2 h3, Bool.or_true])] at hut
        generalize usesX (l.take i) = q at *
        have hcl := inssV_len q
        have hnc : (inssV q).map CV.val ++ (insV x).map CV.val = (inssV (q ++ [x])).map CV.val := inssV_snoc q x rfl
        have hnl : q.length + 1 = (q ++ [x]).length := by rw [List.length_append]; rfl
        (refine LWP.seq <| rgN <| klt rfl rfl (decide_eq_true (by omega)) <| RunK.nil <| LWP.seq <| LWP.condT rfl ?_; refine LWP.skip ?_; refine LWP.seq <| LWP.block <| LWP.seq <| rgN <| K.indexX rfl rfl SliceT.h hin0 hio .plain <| K.loadXagg rfl hX (by kernel_rfl) hsz hcs .plain <| K.alloc rfl .plain ?_; refine K.storeAll rfl rfl rfl rfl rfl rfl .plain ?_; refine RunK.nil <| LWP.seq <| rgN <| kfa rfl rfl ?_; refine kl1 rfl rfl rfl <| keq rfl rfl (r := false) (beq_eq_false_iff_ne.2 h2) <| kmv rfl <| K.fieldAddr rfl rfl (.taken rfl rfl) ?_; refine K.loadOne rfl rfl rfl (.taken rfl rfl) ?_; refine K.eql rfl rfl (r := true) (beq_iff_eq.2 h3) (.taken rfl rfl) ?_; refine kpf rfl rfl <| RunK.nil <| LWP.condT rfl ?_; refine rgN <| kmv rfl <| K.loadAll rfl rfl rfl .plain ?_; refine K.buildSlc (zs := [Value.int .i64 0, .int .i64 0, .int .i64 0, .bool false, .int .u64 0, .int .u64 0]) (sz := 6) (e := 66) (cs' := (insV x).map .val) (by kernel_rfl) rfl rfl rfl rfl rfl rfl .plain <| K.appendSlc (by_ := 48) (e2 := 66) (l2 := (insV x).map .val) (nl := (q ++ [x]).length) (nc := (inssV (q ++ [x])).map .val) rfl rfl hcl rfl rfl (Nat.le_refl _) rfl rfl (by kernel_rfl) (by kernel_rfl) (by omega) (by omega) rfl hnl hnc .plain <| kas rfl <| RunK.nil <| rgN <| kad rfl rfl hinc <| kmv rfl <| RunK.nil ?_)
        exact ⟨_, usSt (some ⟨blk, off, none⟩) l.length cap (i + 1) (q ++ [x]) true X, by omega, Le.ofR [(500, 24)] (by exact ⟨rfl, rfl, rfl, rfl, rfl, trivial⟩) (by repeat' (first | exact trivial | refine And.intro ⟨_, rfl, ?_⟩ ?_ | refine And.intro ⟨_, rfl⟩ ?_ | rfl | exact Box.ren_bytes _ _ _ _ | exact Box.ren_vals _ _ _ _ | exact Box.ren_mid rfl)) (by exact rfl) (by exact rfl) (by repeat' (first | refine all_cons_true ?_ ?_ | rfl | exact bytes_inUse | exact vals_inUse | exact mid_inUse rfl)) (by exact rfl) (by exact rfl), i + 1, true, by omega, rfl, by rw [hut]⟩
      · rw [if_neg (by rw [beq_eq_false_iff_ne.2 h2, beq_eq_false_iff_ne.2 h3]; decide)] at hut
        generalize usesX (l.take i) = q at *
        (refine LWP.seq <| rgN <| klt rfl rfl (decide_eq_true (by omega)) <| RunK.nil <| LWP.seq <| LWP.condT rfl ?_; refine LWP.skip ?_; refine LWP.seq <| LWP.block <| LWP.seq <| rgN <| K.indexX rfl rfl SliceT.h hin0 hio .plain <| K.loadXagg rfl hX (by kernel_rfl) hsz hcs .plain <| K.alloc rfl .plain ?_; refine K.storeAll rfl rfl rfl rfl rfl rfl .plain ?_; refine RunK.nil <| LWP.seq <| rgN <| kfa rfl rfl ?_; refine kl1 rfl rfl rfl <| keq rfl rfl (r := false) (beq_eq_false_iff_ne.2 h2) <| kmv rfl <| K.fieldAddr rfl rfl (.taken rfl rfl) ?_; refine K.loadOne rfl rfl rfl (.taken rfl rfl) ?_; refine K.eql rfl rfl (r := false) (beq_eq_false_iff_ne.2 h3) (.taken rfl rfl) ?_; refine kpf rfl rfl <| RunK.nil <| LWP.condF rfl ?_; refine LWP.skip ?_; refine rgN <| kad rfl rfl hinc <| kmv rfl <| RunK.nil ?_)
        exact ⟨_, usSt (some ⟨blk, off, none⟩) l.length cap (i + 1) q r X, by omega, Le.of (by exact ⟨rfl, rfl, rfl, rfl, rfl, trivial⟩) (by exact ⟨rfl, trivial⟩) (by exact rfl) (by exact rfl) (by repeat' (first | refine all_cons_true ?_ ?_ | rfl | exact bytes_inUse | exact vals_inUse | exact mid_inUse rfl)), i + 1, r, by omega, rfl, by rw [hut]⟩
  · have e : i = l.length := by omega
    subst e
    rw [List.take_length]
    (refine LWP.seq <| rgN <| klt rfl rfl (decide_eq_false (by omega)) <| RunK.nil <| LWP.seq <| LWP.condF rfl ?_; refine LWP.exit <| LWP.seq <| rgN <| kmv rfl <| kas rfl <| RunK.nil <| LWP.ret ?_)
    refine Leads.le (σ' := ⟨[(2, .sv (.one (.slc 500 0 (usesX l).length 6)))], [(500, some ⟨66, (inssV (usesX l)).map .val, r⟩)], X⟩) (Le.of (by exact ⟨rfl, trivial⟩) (by exact ⟨rfl, trivial⟩) (by exact rfl) (by exact rfl) (by repeat' (first | refine all_cons_true ?_ ?_ | rfl | exact bytes_inUse | exact vals_inUse | exact mid_inUse rfl))) ?_
    refine Leads.le Le.loose (Leads.done ?_)
    exact ⟨[(1000001, 500)], ⟨[_], ⟨rfl, trivial⟩, rfl⟩, (by repeat' (first | exact trivial | refine And.intro ⟨_, rfl, ?_⟩ ?_ | refine And.intro ⟨_, rfl⟩ ?_ | rfl | exact Box.ren_bytes _ _ _ _ | exact Box.ren_vals _ _ _ _ | exact Box.ren_mid rfl)), rfl, rfl⟩
end Go.Proofs.YtnfbccfghgmfiaaGreat
end
section
namespace Go.Proofs.YtnfbccfghgmfiaaGreat
open Go Go.Lg Go.Lg.Fml Go.Lg.Fld Go.Lg.Arith
set_option maxRecDepth 100000
variable (X : Nat → Option Obj)
theorem gCheck (l : List Ins) (ad : Option Addr) (cap : Nat) (hin : InsIn X ad l) (hl : l.length < 1152921504606846976) : PSpec Tryz.prog X 19 [Lx ad l.length cap] (Ln .i64 (chkX l)) := by
  exact gCheck' X l ad cap hin hl
theorem gEval (l : List Ins) (ad : Option Addr) (cap : Nat) (hin : InsIn X ad l) (hbig : l.length < 1152921504606846976) (fad : Option Addr) (fcap : Nat) (fs : List (List Nm)) (hfs : FssIn X fad fs) (hfl : fs.length < 4611686018427387904) (hrl : ∀ r ∈ fs, r.length < 4611686018427387904) (hf2 : ∀ r ∈ fs, ∀ u ∈ r, In2 u.2) (at_ : Int) (hat : -9223372036854775808 ≤ at_ ∧ at_ < 9223372036854775808) :
    PSpec Tryz.prog X 16 [Lx ad l.length cap, LEnv fad fs.length fcap at_] (exR (evX l fs at_)) := by
  exact gEval' X l ad cap hin hbig fad fcap fs at_ ⟨hfs, hfl, hrl, hat⟩ hf2
end Go.Proofs.YtnfbccfghgmfiaaGreat
end
section
namespace Go.Proofs.YtnfbccfghgmfiaaGreat
open Go Go.Lg Go.Lg.Fml Go.Lg.Fld Go.RowKit Go.ChangeShapes Go.WideShapes Go.Joins
set_option maxRecDepth 100000
section
variable {H : Type} {enc : TypeId × Value → H} {w : World}
theorem open_fields_w {fuel : Nat} {l : List Value} {x : DataW H × List MemPlace} (h : DataW.trod enc Tryz.prog w 0 (fun _ => true) true fuel 22 l = some x) (hw : Light Tryz.prog 22 x.1) :
    ∃ (ad : Option Addr) (cap : Nat) (fs : List Fl), l = [.slice ad fs.length cap] ∧ fs.length ≤ 4398046511104 ∧ FieldsIn (fun b => w.heap[b]?) ad fs ∧ ∀ f ∈ fs, f.nm.length ≤ 9223372036854775807 := by
  obtain ⟨ad, cap, rows, rfl, hb, _, _, h3, h4⟩ := open_rows_w (e := 49) (sz := 3) (by kernel_rfl) (by kernel_rfl) (by decide) h hw
  obtain ⟨fs, rfl, h5⟩ := map_of (f := Fl.vals) (q := fun f => ((-9223372036854775808 ≤ f.kind ∧ f.kind < 9223372036854775808) ∧ (-9223372036854775808 ≤ f.count ∧ f.count < 9223372036854775808)) ∧ f.nm.length ≤ 9223372036854775807) (vs := rows) (fun u hu => by
    obtain ⟨hlen, n, x, hx, _⟩ := h4 u hu
    obtain ⟨y0, y1, y2, n', _, _, g0, g1, g2⟩ := Deep.trod_struct3 (t := 49) Tryz.underlying49 hx
    obtain ⟨e0', e1', e2', rfl⟩ : ∃ c0 c1 c2, u = [c0, c1, c2] := by
      match u, hlen with
      | [c0, c1, c2], _ => exact ⟨c0, c1, c2, rfl⟩
    obtain ⟨s, e0, _, hsz⟩ := DataW.trod_string (by kernel_rfl) g0
    obtain ⟨k, e1, _, wa1⟩ := DataW.trod_int (k := .i64) (by kernel_rfl) g1
    obtain ⟨c, e2, _, wa2⟩ := DataW.trod_int (k := .i64) (by kernel_rfl) g2
    have q0 : e0' = .string s := by simpa using (show ([e0', e1', e2'].drop 0).take 1 = [.string s] from e0)
    have q1 : e1' = .int .i64 k := by simpa using (show ([e0', e1', e2'].drop 1).take 1 = [.int .i64 k] from e1)
    have q2 : e2' = .int .i64 c := by simpa using (show ([e0', e1', e2'].drop 2).take 1 = [.int .i64 c] from e2)
    subst q0 q1 q2
    have b1 := bounds_i64 wa1
    have b2 := bounds_i64 wa2
    exact ⟨⟨s.data.toList, k, c⟩, rfl, (show (-9223372036854775808 ≤ k ∧ k < 9223372036854775808) ∧ (-9223372036854775808 ≤ c ∧ c < 9223372036854775808) by omega), (show s.data.toList.length ≤ _ from (by unfold maxLen at hsz; rw [Array.length_toList]; exact hsz))⟩)
  exact ⟨ad, cap, fs, by rw [List.length_map], by rw [List.length_map, show Tryz.prog.bytesOf 49 = 32 by kernel_rfl, show reachBytes = 140737488351232 by decide] at hb; omega, ⟨h3, fun f hf => (h5 f hf).1⟩, fun f hf => (h5 f hf).2⟩
theorem open_inss_w {fuel : Nat} {lv : List Value} {xx : DataW H × List MemPlace} (h : DataW.trod enc Tryz.prog w 0 (fun _ => true) true fuel 50 lv = some xx) (hw : Light Tryz.prog 50 xx.1) :
    ∃ (ad : Option Addr) (cap : Nat) (l : List Ins), lv = [.slice ad l.length cap] ∧ l.length ≤ 4398046511104 ∧ InsIn (fun b => w.heap[b]?) ad l := by
  obtain ⟨ad, cap, rows, rfl, hb, h1, h2, h3, h4⟩ := open_rows_w (e := 66) (sz := 6) (by kernel_rfl) (by kernel_rfl) (by decide) h hw
  obtain ⟨l, rfl, h5⟩ := map_of (f := insV) (q := smallI) (vs := rows) (fun u hu => by
    obtain ⟨hlen, n, x, hx, _⟩ := h4 u hu
    obtain ⟨y0, y1, y2, y3, n', _, _, g0, g1, g2, g3⟩ := trod_struct4 (t := 66) Tryz.underlying66 hx
    obtain ⟨c0, c1, c2, c3, c4, c5, rfl⟩ : ∃ c0 c1 c2 c3 c4 c5, u = [c0, c1, c2, c3, c4, c5] := by
      match u, hlen with
      | [c0, c1, c2, c3, c4, c5], _ => exact ⟨c0, c1, c2, c3, c4, c5, rfl⟩
    obtain ⟨k0, e0, _, wa0⟩ := DataW.trod_int (k := .i64) (by kernel_rfl) g0
    obtain ⟨k1, e1, _, wa1⟩ := DataW.trod_int (k := .i64) (by kernel_rfl) g1
    obtain ⟨k2, e2, _, wa2⟩ := DataW.trod_int (k := .i64) (by kernel_rfl) g2
    obtain ⟨z0, z1, z2, m', _, _, j0, j1, j2⟩ := Deep.trod_struct3 (t := 64) Tryz.underlying64 g3
    obtain ⟨b, e3, _⟩ := DataW.trod_bool (by kernel_rfl) j0
    obtain ⟨x, e4, _, wa4⟩ := DataW.trod_int (k := .u64) (by kernel_rfl) j1
    obtain ⟨y, e5, _, wa5⟩ := DataW.trod_int (k := .u64) (by kernel_rfl) j2
    have q0 : c0 = .int .i64 k0 := by simpa using (show ([c0, c1, c2, c3, c4, c5].drop 0).take 1 = [.int .i64 k0] from e0)
    have q1 : c1 = .int .i64 k1 := by simpa using (show ([c0, c1, c2, c3, c4, c5].drop 1).take 1 = [.int .i64 k1] from e1)
    have q2 : c2 = .int .i64 k2 := by simpa using (show ([c0, c1, c2, c3, c4, c5].drop 2).take 1 = [.int .i64 k2] from e2)
    have q3 : c3 = .bool b := by simpa using (show ((([c0, c1, c2, c3, c4, c5].drop 3).take 3).drop 0).take 1 = [.bool b] from e3)
    have q4 : c4 = .int .u64 x := by simpa using (show ((([c0, c1, c2, c3, c4, c5].drop 3).take 3).drop 1).take 1 = [.int .u64 x] from e4)
    have q5 : c5 = .int .u64 y := by simpa using (show ((([c0, c1, c2, c3, c4, c5].drop 3).take 3).drop 2).take 1 = [.int .u64 y] from e5)
    subst q0 q1 q2 q3 q4 q5
    have b0 := bounds_i64 wa0
    have b1 := bounds_i64 wa1
    have b2 := bounds_i64 wa2
    have b4 := bounds_u64 wa4
    have b5 := bounds_u64 wa5
    refine ⟨⟨k0, k1, k2, (b, x * 18446744073709551616 + y)⟩, ?_, by show -9223372036854775808 ≤ k0 ∧ k0 < 9223372036854775808; omega, by show -9223372036854775808 ≤ k1 ∧ k1 < 9223372036854775808; omega, by show -9223372036854775808 ≤ k2 ∧ k2 < 9223372036854775808; omega, by show 0 ≤ x * 18446744073709551616 + y; omega, by show x * 18446744073709551616 + y < _; omega⟩
    unfold insV
    show _ = [Value.int .i64 k0, .int .i64 k1, .int .i64 k2, .bool b, .int .u64 ((x * 18446744073709551616 + y) / 18446744073709551616), .int .u64 ((x * 18446744073709551616 + y) % 18446744073709551616)]
    rw [show (x * 18446744073709551616 + y) / 18446744073709551616 = x by omega, show (x * 18446744073709551616 + y) % 18446744073709551616 = y by omega])
  exact ⟨ad, cap, l, by rw [List.length_map], by rw [List.length_map, show Tryz.prog.bytesOf 66 = 48 by kernel_rfl, show reachBytes = 140737488351232 by decide] at hb; omega, ⟨h3, h5⟩⟩
theorem open_inss2 {r : Reach} {b0 : Nat} {v : Value} {d : DataW H} {p : List MemPlace} (hv : Value.okWide Tryz.prog w r b0 50 v) (h : DataW.Trod enc Tryz.prog w 0 (fun _ => true) true 50 v d p) (hw : Light Tryz.prog 50 d) :
    ∃ (ad : Option Addr) (cap : Nat) (l : List Ins), v = .slice ad l.length cap ∧ l.length ≤ 4398046511104 ∧ InsIn (fun b => w.heap[b]?) ad l := by
  obtain ⟨a, len, cap, rfl⟩ := okWide_slice (show Tryz.prog.underlying 50 = some (.slice 66) by kernel_rfl) hv
  obtain ⟨fuel, hf⟩ := h
  obtain ⟨ad, cap2, l, e, h1, h2⟩ := open_inss_w hf hw
  simp [Value.cells] at e
  obtain ⟨rfl, rfl, rfl⟩ := e
  exact ⟨_, _, l, rfl, h1, h2⟩
theorem cellsCp : Tryz.prog.cellsOf 24 = 3 := by kernel_rfl
theorem open_comp {r : Reach} {b0 : Nat} {v : Value} {d : DataW H} {p : List MemPlace} (hv : Value.okWide Tryz.prog w r b0 24 v) (h : DataW.Trod enc Tryz.prog w 0 (fun _ => true) true 24 v d p) (hw : Light Tryz.prog 24 d) :
    ∃ (c : Cp) (ad : Option Addr) (cap : Nat), v = .agg #[.int .i64 c.id, .string ⟨c.nm.toArray⟩, .slice ad c.fs.length cap] ∧ (-9223372036854775808 ≤ c.id ∧ c.id < 9223372036854775808) ∧ c.fs.length ≤ 4398046511104 ∧ FieldsIn (fun b => w.heap[b]?) ad c.fs ∧ ∀ f ∈ c.fs, f.nm.length ≤ 9223372036854775807 := by
  obtain ⟨v0, v1, v2, y0, y1, y2, m, rfl, rfl, rfl, hy0, hy1, hy2⟩ := open_agg3 Tryz.underlying24 (by kernel_rfl) cellsCp hv h
  have hw2 := (Light.struct3 Tryz.underlying24 hw).2.2
  obtain ⟨x, e0, rfl, wa0⟩ := DataW.trod_int (k := .i64) (by kernel_rfl) hy0
  obtain ⟨s, e1, rfl, hsz⟩ := DataW.trod_string (by kernel_rfl) hy1
  obtain ⟨ad, cap, fs, e2, h1, h2, h3⟩ := open_fields_w hy2 hw2
  simp at e0 e1 e2
  subst e0 e1 e2
  have b0 := bounds_i64 wa0
  exact ⟨⟨x, s.data.toList, fs⟩, ad, cap, rfl, (show -9223372036854775808 ≤ x ∧ x < 9223372036854775808 by omega), h1, h2, h3⟩
end
end Go.Proofs.YtnfbccfghgmfiaaGreat
end
section
namespace Go.Proofs.YtnfbccfghgmfiaaGreat
open Go Go.Lg Go.Lg.Fml Go.Lg.Fld Go.Lg.Arith
def findE (fs : List Fl) (f : Fl) (x : Ins) : Int :=
  if x.op = 2 ∨ x.op = 3 then (match fs[x.a.toNat]? with
    | none => 3
    | some g => if (x.op = 2 ∧ g.count ≤ x.b) ∨ (x.op = 3 ∧ g.count < f.count) then 3 else if (g.kind = 10) = (f.kind = 10) then 0 else 8)
  else 0
def atE {α : Type} (g : α → Int) (l : List α) (i : Nat) : Int := match l[i]? with | some x => g x | none => 0
theorem atE_at {α : Type} {g : α → Int} {l : List α} {i : Nat} {x : α} (h : l[i]? = some x) : atE g l i = g x := by unfold atE; rw [h]
def seqE {α : Type} (g : α → Int) (l : List α) : Int := firstE (atE g l) 0 l.length
theorem seqE_zero {α : Type} {g : α → Int} {l : List α} (h : seqE g l = 0) : ∀ x ∈ l, g x = 0 := fun x hx => by
  obtain ⟨i, hi⟩ := List.mem_iff_getElem?.1 hx
  have := firstE_zero h i (Nat.zero_le _) (by have := (List.getElem?_eq_some_iff.1 hi).1; omega)
  rw [atE_at hi] at this; exact this
theorem seqE_none {α : Type} {g : α → Int} {l : List α} (h : ∀ x ∈ l, g x = 0) : seqE g l = 0 := firstE_none fun j _ _ => by
  unfold atE
  split
  · rename_i x hx; exact h x (List.mem_of_getElem? hx)
  · rfl
def refE (f : Fl) : List Ins → Int
  | [x] => if f.kind = 10 ∧ (x.op = 4 ∨ (x.op = 1 ∧ x.k ≠ (false, 0))) then 8 else 0
  | _ => if f.kind = 10 then 8 else 0
def fmE (fs : List Fl) (f : Fl) (l : List Ins) : Int := if chkX l = 0 then (if seqE (findE fs f) l = 0 then refE f l else seqE (findE fs f) l) else chkX l
def ruE (fs gs : List Fl) (r : Rl) : Int := if r.old = 0 then 0 else if r.ex.length = gs.length then seqE (fun q : Fl × List Ins => fmE fs q.1 q.2) (gs.zip r.ex) else 4
def findC (cs : List Cp) (id : Int) : Option Cp := cs.find? fun c => c.id == id
def nwE (a : Sc) (q : Rl × Cp) : Int := if q.1.nw = q.2.id ∧ (q.1.old = 0 ∨ (findC a.cs q.1.old).isSome) then 0 else 6
def flC (a : Sc) (id : Int) : List Fl := match findC a.cs id with | some c => c.fs | none => []
def ruC (a : Sc) (q : Rl × Cp) : Int := ruE (flC a q.1.old) q.2.fs q.1
def ckE (a b : Sc) (p : Pg) : Int :=
  if chkE a = 0 then (if chkE b = 0 then (if chkP p = 0 then (if p.va = a.ver ∧ p.vb = b.ver ∧ p.va < p.vb then (if p.rs.length = b.cs.length then (if seqE (nwE a) (p.rs.zip b.cs) = 0 then seqE (ruC a) (p.rs.zip b.cs) else 6) else 6) else 7) else chkP p) else chkE b) else chkE a
def num0 : Ins := ⟨1, 0, 0, (false, 0)⟩
def plainF (fs : List Fl) (f : Fl) : Ins := match fs.findIdx? (fun g => g.nm == f.nm) with
  | none => num0
  | some i => match fs[i]? with
    | none => num0
    | some g => if f.count ≤ g.count ∧ ((g.kind = 10) = (f.kind = 10)) then ⟨3, i, 0, (false, 0)⟩ else num0
def plainR (a : Sc) (c : Cp) : Rl := match findC a.cs c.id with
  | none => ⟨c.id, 0, []⟩
  | some o => ⟨c.id, c.id, c.fs.map fun f => [plainF o.fs f]⟩
def plainP (a b : Sc) : Pg := ⟨a.ver, b.ver, b.cs.map (plainR a)⟩
theorem findC_some {cs : List Cp} {id : Int} {c : Cp} (h : findC cs id = some c) : c ∈ cs ∧ c.id = id := ⟨List.mem_of_find?_eq_some h, by have := List.find?_some h; simpa using this⟩
theorem findC_at {cs : List Cp} {id : Int} {c : Cp} (h : findC cs id = some c) : ∃ i, cs[i]? = some c ∧ c.id = id ∧ ∀ (j : Nat) (y : Cp), j < i → cs[j]? = some y → (y.id == id) = false := by
  obtain ⟨hp, i, hi, he, hj⟩ := List.find?_eq_some_iff_getElem.1 h
  refine ⟨i, by rw [List.getElem?_eq_getElem hi, he], by simpa using hp, fun j y hji hy => ?_⟩
  obtain ⟨hj', e⟩ := List.getElem?_eq_some_iff.1 hy
  have := hj j hji
  rw [e] at this
  simpa using this
theorem findC_no {cs : List Cp} {id : Int} (h : findC cs id = none) : ∀ (j : Nat) (y : Cp), cs[j]? = some y → (y.id == id) = false := fun j y hy => by
  have := List.find?_eq_none.1 h y (List.mem_of_getElem? hy)
  simpa using this
theorem chkX_one {x : Ins} (h : okI x = true) (h0 : takes x.op = 0) : chkX [x] = 0 := by
  unfold chkX
  rw [if_neg (by simp)]
  have : dep okI 0 [x] = some 1 := by
    simp only [dep, h0, h]
    rfl
  rw [this]; rfl
theorem plainF_cases (fs : List Fl) (f : Fl) : plainF fs f = num0 ∨ ∃ (i : Nat) (g : Fl), fs[i]? = some g ∧ f.count ≤ g.count ∧ ((g.kind = 10) = (f.kind = 10)) ∧ plainF fs f = ⟨3, i, 0, (false, 0)⟩ := by
  unfold plainF
  split
  · exact .inl rfl
  · rename_i i hi
    split
    · exact .inl rfl
    · rename_i g hg
      by_cases h : f.count ≤ g.count ∧ ((g.kind = 10) = (f.kind = 10))
      · rw [if_pos h]; exact .inr ⟨i, g, hg, h.1, h.2, rfl⟩
      · rw [if_neg h]; exact .inl rfl
theorem plainF_okI {fs : List Fl} (h8 : fs.length ≤ 8) (f : Fl) : okI (plainF fs f) = true ∧ takes (plainF fs f).op = 0 := by
  rcases plainF_cases fs f with h | ⟨i, g, hi, _, _, h⟩
  · rw [h]; exact ⟨by decide +kernel, by decide +kernel⟩
  · rw [h]
    have := (List.getElem?_eq_some_iff.1 hi).1
    refine ⟨?_, by show takes 3 = 0; decide⟩
    unfold okI
    simp only [Bool.and_eq_true, decide_eq_true_eq]
    exact ⟨by decide, by decide +kernel, by omega, by omega⟩
theorem plainF_fm {fs : List Fl} (h8 : fs.length ≤ 8) (f : Fl) : fmE fs f [plainF fs f] = 0 := by
  obtain ⟨h1, h2⟩ := plainF_okI h8 f
  unfold fmE
  rw [if_pos (chkX_one h1 h2)]
  have hs : seqE (findE fs f) [plainF fs f] = 0 := seqE_none fun x hx => by
    rw [List.mem_singleton.1 hx]
    rcases plainF_cases fs f with h | ⟨i, g, hi, hc, hk, h⟩
    · rw [h]; rfl
    · rw [h]
      unfold findE
      rw [if_pos (.inr rfl)]
      simp only [Int.toNat_natCast, hi]
      rw [if_neg (by omega), if_pos hk]
  rw [if_pos hs]
  show (if f.kind = 10 ∧ ((plainF fs f).op = 4 ∨ ((plainF fs f).op = 1 ∧ (plainF fs f).k ≠ (false, 0))) then (8 : Int) else 0) = 0
  rw [if_neg]
  rintro ⟨_, h⟩
  rcases plainF_cases fs f with e | ⟨i, g, _, _, _, e⟩
  · rw [e] at h; simp [num0] at h
  · rw [e] at h; simp at h
theorem plain_ex_ok {fs : List Fl} (h8 : fs.length ≤ 8) (gs : List Fl) : firstX (gs.map fun f => [plainF fs f]) = 0 := by
  induction gs with
  | nil => rfl
  | cons f t ih =>
    obtain ⟨h1, h2⟩ := plainF_okI h8 f
    show (if encErr [plainF fs f] = 0 then firstX (t.map fun f => [plainF fs f]) else encErr [plainF fs f]) = 0
    have : encErr [plainF fs f] = 0 := by
      unfold encErr
      rw [if_pos (chkX_one h1 h2)]
      have : plainI (plainF fs f) = true := by
        rcases plainF_cases fs f with h | ⟨i, g, _, _, _, h⟩
        · rw [h]; decide +kernel
        · rw [h]; rfl
      simp only [List.all_cons, List.all_nil, this, Bool.and_self, if_true]
    rw [if_pos this]; exact ih
theorem chkE_good {s : Sc} (h : chkE s = 0) : (1 ≤ s.ver ∧ s.ver ≤ 1073741824) ∧ Fld.Good s.cs := by
  unfold chkE at h
  by_cases hv : s.ver < 1 ∨ 1073741824 < s.ver
  · rw [if_pos hv] at h; cases h
  · rw [if_neg hv] at h; exact ⟨by omega, good_of h⟩
theorem _root_.Go.Lg.Fld.Good.len8 {cs : List Cp} (h : Fld.Good cs) {c : Cp} (hc : c ∈ cs) : c.fs.length ≤ 8 := by
  obtain ⟨i, hi⟩ := List.mem_iff_getElem?.1 hc
  exact (layErr_facts (h.one i c hi).2.2.2.2).1
theorem plainR_nw (a : Sc) (c : Cp) : (plainR a c).nw = c.id := by unfold plainR; split <;> rfl
theorem plainR_old {a : Sc} {c : Cp} (h1 : 1 ≤ c.id) : ((plainR a c).old = 0 ∧ (plainR a c).ex = []) ∨ ∃ o, findC a.cs c.id = some o ∧ plainR a c = ⟨c.id, c.id, c.fs.map fun f => [plainF o.fs f]⟩ := by
  unfold plainR
  split
  · exact .inl ⟨rfl, rfl⟩
  · rename_i o ho; exact .inr ⟨o, ho, rfl⟩
theorem plainR_chk {a : Sc} (ha : Fld.Good a.cs) {c : Cp} (h1 : 1 ≤ c.id ∧ c.id ≤ 24) (h8 : c.fs.length ≤ 8) {last : Int} (hl : last < c.id) : chkR (plainR a c) last = 0 := by
  rcases plainR_old (a := a) h1.1 with ⟨h0, he⟩ | ⟨o, ho, h⟩
  · unfold chkR
    rw [h0, he, plainR_nw, if_neg (by omega), if_neg (fun h => h.2 rfl), if_neg (by simp)]
    rfl
  · rw [h]
    unfold chkR
    simp only
    rw [if_neg (by omega), if_neg (by omega), if_neg (by rw [List.length_map]; omega)]
    exact plain_ex_ok (ha.len8 (findC_some ho).1) c.fs
theorem plain_chkRs {a : Sc} (ha : Fld.Good a.cs) : ∀ {l : List Cp} {last : Int}, (∀ c ∈ l, (1 ≤ c.id ∧ c.id ≤ 24) ∧ c.fs.length ≤ 8) → (∀ c ∈ l, last < c.id) → l.Pairwise (fun c d => c.id < d.id) → chkRs last (l.map (plainR a)) = 0
  | [], _, _, _, _ => rfl
  | c :: t, last, h, hl, hp => by
    obtain ⟨p1, p2⟩ := List.pairwise_cons.1 hp
    have hc := h c (List.mem_cons_self ..)
    show (if chkR (plainR a c) last = 0 then chkRs (plainR a c).nw (t.map (plainR a)) else chkR (plainR a c) last) = 0
    rw [if_pos (plainR_chk ha hc.1 hc.2 (hl c (List.mem_cons_self ..))), plainR_nw]
    exact plain_chkRs ha (fun d hd => h d (List.mem_cons_of_mem _ hd)) p1 p2
theorem _root_.Go.Lg.Fld.Good.pair {cs : List Cp} (h : Fld.Good cs) : cs.Pairwise (fun c d => c.id < d.id) := by
  rw [List.pairwise_iff_getElem]
  intro i j hi hj hij
  exact (h.two i j _ _ hij (List.getElem?_eq_getElem hi) (List.getElem?_eq_getElem hj)).1
theorem _root_.Go.Lg.Fld.Good.all {cs : List Cp} (h : Fld.Good cs) : ∀ c ∈ cs, (1 ≤ c.id ∧ c.id ≤ 24) ∧ c.fs.length ≤ 8 := fun c hc => by
  obtain ⟨i, hi⟩ := List.mem_iff_getElem?.1 hc
  obtain ⟨g1, g2, _⟩ := h.one i c hi
  exact ⟨⟨g1, g2⟩, h.len8 hc⟩
theorem plain_chkP {a b : Sc} (ha : chkE a = 0) (hb : chkE b = 0) (n : Nat) : chkP ⟨a.ver, b.ver, ((plainP a b).rs).take n⟩ = 0 := by
  obtain ⟨va, ga⟩ := chkE_good ha
  obtain ⟨vb, gb⟩ := chkE_good hb
  unfold chkP verOk plainP
  simp only
  rw [if_pos (by simp; omega), ← List.map_take]
  exact plain_chkRs ga (fun c hc => gb.all c (List.take_subset _ _ hc)) (fun c hc => by have := (gb.all c (List.take_subset _ _ hc)).1; omega) (gb.pair.sublist (List.take_sublist _ _))
theorem zip_map_mem {α β : Type} {g : α → β} : ∀ {l : List α} {q : β × α}, q ∈ (l.map g).zip l → q.2 ∈ l ∧ q.1 = g q.2
  | [], _, h => by cases h
  | x :: t, q, h => by
    rcases List.mem_cons.1 h with rfl | h
    · exact ⟨List.mem_cons_self .., rfl⟩
    · obtain ⟨h1, h2⟩ := zip_map_mem h; exact ⟨List.mem_cons_of_mem _ h1, h2⟩
theorem zip_map_mem' {α β : Type} {g : α → β} : ∀ {l : List α} {q : α × β}, q ∈ l.zip (l.map g) → q.1 ∈ l ∧ q.2 = g q.1
  | [], _, h => by cases h
  | x :: t, q, h => by
    rcases List.mem_cons.1 h with rfl | h
    · exact ⟨List.mem_cons_self .., rfl⟩
    · obtain ⟨h1, h2⟩ := zip_map_mem' h; exact ⟨List.mem_cons_of_mem _ h1, h2⟩
theorem plain_ok {a b : Sc} (ha : chkE a = 0) (hb : chkE b = 0) (hv : a.ver < b.ver) : ckE a b (plainP a b) = 0 := by
  have h := plain_chkP ha hb (plainP a b).rs.length
  rw [List.take_length] at h
  obtain ⟨_, ga⟩ := chkE_good ha
  obtain ⟨_, gb⟩ := chkE_good hb
  unfold ckE
  rw [if_pos ha, if_pos hb, if_pos (show chkP (plainP a b) = 0 from h), if_pos ⟨rfl, rfl, hv⟩, if_pos (show ((plainP a b).rs).length = b.cs.length by unfold plainP; rw [List.length_map])]
  have hn : seqE (nwE a) ((plainP a b).rs.zip b.cs) = 0 := seqE_none fun q hq => by
    obtain ⟨h1, h2⟩ := zip_map_mem hq
    unfold nwE
    rw [if_pos]
    rw [h2]
    refine ⟨plainR_nw a q.2, ?_⟩
    rcases plainR_old (a := a) (gb.all _ h1).1.1 with ⟨h0, _⟩ | ⟨o, ho, e⟩
    · exact .inl h0
    · exact .inr (by rw [e]; rw [ho]; rfl)
  rw [if_pos hn]
  refine seqE_none fun q hq => ?_
  obtain ⟨h1, h2⟩ := zip_map_mem hq
  unfold ruC ruE
  rcases plainR_old (a := a) (gb.all _ h1).1.1 with ⟨h0, _⟩ | ⟨o, ho, e⟩
  · rw [h2, if_pos h0]
  · rw [h2, e]
    simp only
    rw [if_neg (by have := (gb.all _ h1).1; omega), if_pos (by rw [List.length_map])]
    refine seqE_none fun u hu => ?_
    obtain ⟨_, h4⟩ := zip_map_mem' hu
    unfold flC
    rw [ho, h4]
    exact plainF_fm (ga.len8 (findC_some ho).1) u.1
end Go.Proofs.YtnfbccfghgmfiaaGreat
end
section
namespace Go.Proofs.YtnfbccfghgmfiaaGreat
open Go Go.Lg Go.Lg.Fml Go.Lg.Fld Go.Lg.Arith
set_option maxRecDepth 100000
theorem InsIn.six {X : Nat → Option Obj} {ad : Option Addr} {l : List Ins} (h : InsIn X ad l) {i : Nat} {x : Ins} (hx : l[i]? = some x) :
    ∃ (blk off : Nat) (arr : Array Value) (el : TypeId) (fr : Nat × Nat), ad = some ⟨blk, off, none⟩ ∧ X blk = some (.cells arr el fr) ∧ off + i * 6 + 6 ≤ arr.size ∧ ((arr.toList.drop (off + i * 6)).take 6).map CV.val = (insV x).map CV.val ∧ arr[off + i * 6]? = some (.int .i64 x.op) ∧
      arr[off + i * 6 + 1]? = some (.int .i64 x.a) ∧ arr[off + i * 6 + 2]? = some (.int .i64 x.b) ∧ ((arr.toList.drop (off + i * 6 + 3)).take 3).map CV.val = [.val (.bool x.k.1), .val (.int .u64 (x.k.2 / 18446744073709551616)), .val (.int .u64 (x.k.2 % 18446744073709551616))] := by
  obtain ⟨blk, off, arr, el, fr, h1, h2, h3, h4⟩ := h.rows i (insV x) (by rw [List.getElem?_map, hx]; rfl)
  have key : ∀ j, j < 6 → arr[off + i * 6 + j]? = (insV x)[j]? := fun j hj => by
    rw [← h4, List.getElem?_take, if_pos hj, List.getElem?_drop, Array.getElem?_toList]
  refine ⟨blk, off, arr, el, fr, h1, h2, h3, by rw [h4], key 0 (by decide), key 1 (by decide), key 2 (by decide), ?_⟩
  have : (arr.toList.drop (off + i * 6 + 3)).take 3 = (((arr.toList.drop (off + i * 6)).take 6).drop 3).take 3 := by
    rw [List.drop_take, List.take_take, List.drop_drop]; rfl
  rw [this, h4]; rfl
abbrev flB (k : Nat) (f : Fl) : Nat × Option Box := (k, some ⟨49, f.vals.map .val, false⟩)
theorem _root_.Go.Lg.Fld.FieldsIn.cells {X : Nat → Option Obj} {ad : Option Addr} {fs : List Fl} (h : FieldsIn X ad fs) {i : Nat} {f : Fl} (hf : fs[i]? = some f) :
    ∃ (blk off : Nat) (arr : Array Value) (el : TypeId) (fr : Nat × Nat), ad = some ⟨blk, off, none⟩ ∧ X blk = some (.cells arr el fr) ∧ off + i * 3 + 3 ≤ arr.size ∧ ((arr.toList.drop (off + i * 3)).take 3).map CV.val = f.vals.map CV.val ∧
      arr[off + i * 3]? = some (.string ⟨f.nm.toArray⟩) ∧ arr[off + i * 3 + 1]? = some (.int .i64 f.kind) ∧ arr[off + i * 3 + 2]? = some (.int .i64 f.count) := by
  obtain ⟨blk, off, arr, el, fr, h1, h2, h3, h4⟩ := h.rows i f.vals (by rw [List.getElem?_map, hf]; rfl)
  obtain ⟨g1, g2, g3⟩ := three_at h4
  exact ⟨blk, off, arr, el, fr, h1, h2, h3, by rw [h4], g1, g2, g3⟩
section
variable {fs : List Fl} {f : Fl} {x : Ins}
theorem findE_skip (h : ¬(x.op = 2 ∨ x.op = 3)) : findE fs f x = 0 := if_neg h
theorem findE_out (h : x.op = 2 ∨ x.op = 3) (ha : fs[x.a.toNat]? = none) : findE fs f x = 3 := by unfold findE; rw [if_pos h, ha]
theorem findE_at (h : x.op = 2 ∨ x.op = 3) {g : Fl} (ha : fs[x.a.toNat]? = some g) : findE fs f x = if (x.op = 2 ∧ g.count ≤ x.b) ∨ (x.op = 3 ∧ g.count < f.count) then 3 else if (g.kind = 10) = (f.kind = 10) then 0 else 8 := by unfold findE; rw [if_pos h, ha]
end
theorem beq_dec (a b : Int) : (a == b) = decide (a = b) := by by_cases h : a = b <;> simp [h]
variable (X : Nat → Option Obj)
theorem ruE_at {fs gs : List Fl} {r : Rl} (h0 : r.old ≠ 0) (h : r.ex.length = gs.length) : ruE fs gs r = seqE (fun q : Fl × List Ins => fmE fs q.1 q.2) (gs.zip r.ex) := by unfold ruE; rw [if_neg h0, if_pos h]
theorem zip_two {α β : Type} {l : List α} {m : List β} {i : Nat} {x : α} {y : β} (hx : l[i]? = some x) (hy : m[i]? = some y) : (l.zip m)[i]? = some (x, y) := by
  rw [List.getElem?_zip_eq_some]; exact ⟨hx, hy⟩
end Go.Proofs.YtnfbccfghgmfiaaGreat
end
