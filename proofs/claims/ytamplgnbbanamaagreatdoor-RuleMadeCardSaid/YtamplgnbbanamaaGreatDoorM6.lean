/- A piece of a proof over this program: contracts of its functions, and a logic to prove them by. -/
import Derived.Test.YtamplgnbbanamaaGreatDoorM2
import Derived.Test.YtamplgnbbanamaaGreatDoorM3
import Derived.Test.YtamplgnbbanamaaGreatDoorM4
import Derived.Test.YtamplgnbbanamaaGreatDoorM5
import Derived.Lib.Join
import Derived.Lib.SmallJoins
import Derived.Test.YtamplgnbbanamaaGreatDoorRows
import Derived.Lib.ItoaLen
section
namespace Go.Proofs.YtamplgnbbanamaaGreatDoor
open Go Go.Lg Go.Lg.Fml Go.Lg.Fld Go.Lg.Arith
set_option maxRecDepth 100000
theorem joinS_lib : ∀ l : List (List UInt8), joinS l = Lib.join l [44]
  | [] => rfl
  | [a] => (Lib.join_one a [44]).symm
  | a :: b :: t => by
    rw [Lib.join_cons]
    unfold joinS Lib.joinTail
    rw [joinS_lib (b :: t), Lib.join_cons, List.map_cons, List.flatten_cons]
    simp [Lib.joinTail]
def txV (l : List (List UInt8)) : List Value := l.map fun t => .string ⟨t.toArray⟩
def TsIn (Z : Nat → Option Obj) (ad : Option Addr) (l : List (List UInt8)) : Prop := Go.Lg.RowsIn Z ad 1 (l.map fun t => [Value.string ⟨t.toArray⟩])
theorem txV_rows (l : List (List UInt8)) : (l.map fun t => [Value.string ⟨t.toArray⟩]).flatten = txV l := by
  unfold txV
  induction l with
  | nil => rfl
  | cons a t ih => rw [List.map_cons, List.flatten_cons, ih]; rfl
theorem txV_len (l : List (List UInt8)) : ((txV l).map CV.val).length = l.length * 1 := by unfold txV; rw [List.length_map, List.length_map, Nat.mul_one]
theorem txV_app (a b : List (List UInt8)) : txV (a ++ b) = txV a ++ txV b := by unfold txV; rw [List.map_append]
theorem texts_tail {Z : Nat → Option Obj} {sb : Nat} {arr : Array Value} {el : TypeId} {fr : Nat × Nat} {ns : List (List UInt8)} {rest cap : Nat} (hZ : Z sb = some (.cells arr el fr)) (hsp : ∃ sp, arr.toList = txV ns ++ sp) (hc : cap = rest → ns.drop rest = []) :
    TsIn Z (some ⟨sb, if cap = rest then 0 else 0 + rest * 1, none⟩) (ns.drop rest) := by
  have hN : TsIn Z (some ⟨sb, 0, none⟩) ns := rows_in hZ (fun r hr => by obtain ⟨x, _, rfl⟩ := List.mem_map.1 hr; rfl) (by rw [txV_rows]; exact hsp)
  intro i r hi
  by_cases c : cap = rest
  · rw [hc c] at hi; simp at hi
  · rw [if_neg c]
    rw [List.getElem?_map, List.getElem?_drop] at hi
    obtain ⟨blk, off, arr', el', fr', e1, e2, e3, e4⟩ := hN (rest + i) r (by rw [List.getElem?_map]; exact hi)
    simp only [Option.some.injEq, Addr.mk.injEq] at e1
    obtain ⟨rfl, rfl, _⟩ := e1
    refine ⟨sb, 0 + rest * 1, arr', el', fr', rfl, e2, by omega, ?_⟩
    rw [← e4, show 0 + rest * 1 + i * 1 = 0 + (rest + i) * 1 by omega]
def shownX (x : Ins) (a : List (List UInt8)) : List UInt8 := if takes x.op = 0 then leafS x else ((wordX x.op ++ [40]) ++ joinS a) ++ [41]
theorem shownX_len {x : Ins} {a : List (List UInt8)} (hx : okI x = true) (h2 : In2 x.k.2) (ha : a.length = takes x.op) : (shownX x a).length ≤ (a.map List.length).sum + 50 := by
  unfold shownX
  split
  · have := leafS_len hx h2; omega
  · have h1 := word_len x.op
    have h2 := joinS_len (l := a) (n := (a.map List.length).sum) (by have := takes_le x.op; omega) (Nat.le_refl _)
    simp only [List.length_append, List.length_singleton]
    omega
variable (X : Nat → Option Obj)
theorem join_x (ad : Option Addr) (cap : Nat) (l : List (List UInt8)) (hin : TsIn X ad l) (hpos : 0 < l.length) (hl : l.length ≤ cap) (hl3 : l.length ≤ 3) (hs : (l.map List.length).sum ≤ 3200) : PSpec Tryz.prog X 44 [Lx ad l.length cap, Ls [44]] (Ls (joinS l)) := by
  have hjl := joinS_len hl3 hs
  rw [joinS_lib] at hjl ⊢
  obtain ⟨blk, off, arr0, el0, fr0, rfl, hX0, _, _⟩ := hin 0 _ (by rw [List.getElem?_map, List.getElem?_eq_getElem hpos]; rfl)
  refine PSpec.ofBelow (vals := [.slice (some ⟨blk, off, none⟩) l.length cap, .string ⟨([44] : List UInt8).toArray⟩]) (v := .string ⟨(Lib.join l [44]).toArray⟩) (by kernel_rfl) rfl rfl fun w hX => ?_
  have hb := hX _ _ hX0
  have hbk : blk < w.heap.size := (Array.getElem?_eq_some_iff.1 hb).1
  have hcells : ∀ (j : Nat) (x : ByteArray), (l.map fun t => (⟨t.toArray⟩ : ByteArray))[j]? = some x → w.cell? ⟨blk, off + j, none⟩ = some (.string x) := fun j x hx => by
    rw [List.getElem?_map] at hx
    cases ht : l[j]? with
    | none => rw [ht] at hx; cases hx
    | some t =>
      rw [ht] at hx
      simp only [Option.map_some, Option.some.injEq] at hx
      subst hx
      obtain ⟨blk', off', arr, el, fr, e1, e2, e3, e4⟩ := hin j _ (by rw [List.getElem?_map, ht]; rfl)
      simp only [Option.some.injEq, Addr.mk.injEq] at e1
      obtain ⟨rfl, rfl, _⟩ := e1
      have hb2 := hX _ _ e2
      have h5 : ((arr.toList.drop (off + j * 1)).take 1)[0]? = some (.string ⟨t.toArray⟩) := by rw [e4]; rfl
      rw [List.getElem?_take, if_pos (by decide), List.getElem?_drop, Nat.add_zero, Array.getElem?_toList, Nat.mul_one] at h5
      simpa [World.cell?, hb2] using h5
  have hmap : ((l.map fun t => (⟨t.toArray⟩ : ByteArray)).map fun x => x.data.toList) = l := by rw [List.map_map]; exact List.map_id _
  have h := Tryz.strings_Join blk off cap (l.map fun t => (⟨t.toArray⟩ : ByteArray)) ⟨([44] : List UInt8).toArray⟩ w hcells hbk (by rw [List.length_map]; omega) (by rw [List.length_map]; exact hl) (by rw [hmap]; show (Lib.join l [44]).length ≤ _; omega)
  rw [hmap, List.length_map] at h
  exact h
theorem tItoa (n : Int) (h : 0 ≤ n ∧ n ≤ 7) : PSpec Tryz.prog X 70 [Ln .i64 n] (Ls (Lib.itoa n)) := by
  obtain ⟨m, rfl⟩ : ∃ m : Nat, n = (m : Nat) := ⟨n.toNat, by omega⟩
  exact PSpec.ofBelow (vals := [.int .i64 (m : Nat)]) (v := .string ⟨(Lib.itoa (m : Nat)).toArray⟩) (by kernel_rfl) rfl rfl (fun w _ => (Tryz.strconv_Itoa_small m (by omega) w).mono fun _ _ ⟨he, hw⟩ => ⟨by rw [Lib.itoa_nonneg]; exact he, by rw [hw]; exact Go.RowKit.Below.refl _ _⟩)
theorem xtab_mono {X Y : Nat → Option Obj} (h : MoreM X Y) (hT : XTab X) : XTab Y := fun w hw => hT w fun b o hb => hw b o (h b o hb)
set_option maxHeartbeats 6400000 in
theorem tShown (hT : XTab X) (x : Ins) (hx : smallI x) (hok : okI x = true) (f : FuncId) (caps : List Value) (tad : Option Addr) (tcap : Nat) (ts : List (List UInt8)) (hts : TsIn X tad ts) (hlen : ts.length = takes x.op) (hcap : ts.length ≤ tcap) (hs : (ts.map List.length).sum ≤ 3200) :
    PSpec Tryz.prog X 88 [LRow x.op (.val (.func (.func f) #[] caps.toArray)), LIn x, Lx tad ts.length tcap] (Ls (shownX x ts)) := by
  obtain ⟨h17, hgk, ha7, hb7⟩ := okI_facts hok
  have h2 := hx.2.2.2
  have htk := takes_le x.op
  by_cases h0 : takes x.op = 0
  · have hdA := tItoa X x.a ha7
    have hdB := tItoa X x.b hb7
    have lA := Lib.itoa_length_le x.a (by omega) (by omega)
    have lB := Lib.itoa_length_le x.b (by omega) (by omega)
    have hlf : ∀ a b : List UInt8, ([102] ++ a) ++ ([46] ++ b) = (([102] ++ a) ++ [46]) ++ b := fun a b => by simp only [List.append_assoc]
    have c : x.op = 1 ∨ x.op = 2 ∨ x.op = 3 ∨ x.op = 4 := by
      unfold takes at h0
      split at h0
      · omega
      · split at h0
        · omega
        · split at h0 <;> omega
    rw [show shownX x ts = leafS x from if_pos h0]
    rcases c with c | c | c | c
    · obtain ⟨e1, r1⟩ : LI x.k.1 x.k.2 = LQ (zz x.k) ∧ R127 (zz x.k) := ⟨LI_q h2 hgk, (zv_in h2 hgk).1⟩
      have hTx := Text_spec X hT (zz x.k) r1
      rw [← e1] at hTx
      rw [show leafS x = textQ (zz x.k) from if_pos c]
      generalize textQ (zz x.k) = s at *
      clear e1 r1
      refine PSpec.intro Tryz.func88 rfl (by kernel_rfl) rfl rfl ?_
      intro C
      (refine LWP.seq <| rgN <| K.box rfl rfl rfl .plain <| K.box rfl rfl rfl .plain <| kas rfl <| RunK.nil <| LWP.seq <| LWP.seq <| rgN <| kfa rfl rfl ?_; refine kl1 rfl rfl rfl <| RunK.nil <| LWP.block <| LWP.seq <| rgN <| keq rfl rfl (r := true) (beq_iff_eq.2 c) <| kas rfl <| RunK.nil <| LWP.condT rfl ?_; refine LWP.seq <| rgN <| kfa rfl rfl ?_; refine K.loadPart rfl rfl rfl (by exact nl3 rfl rfl rfl rfl) .plain ?_; refine kca rfl rfl (hTx) <| kas rfl <| RunK.nil <| LWP.ret ?_)
      exact ⟨[_], ⟨rfl, trivial⟩, rfl⟩
    · rw [show leafS x = ([102] ++ dg1 x.a) ++ ([46] ++ dg1 x.b) by unfold leafS; rw [if_neg (by omega), if_pos c], hlf]
      unfold dg1
      generalize Lib.itoa x.a = sa at *
      generalize Lib.itoa x.b = sb at *
      have g1 : (⟨([102] : List UInt8).toArray⟩ : ByteArray).size + (⟨sa.toArray⟩ : ByteArray).size ≤ 9223372036854775807 := by show 1 + sa.length ≤ _; omega
      have g2 : (⟨(([102] : List UInt8) ++ sa).toArray⟩ : ByteArray).size + (⟨([46] : List UInt8).toArray⟩ : ByteArray).size ≤ 9223372036854775807 := by show (([102] : List UInt8) ++ sa).length + 1 ≤ _; rw [List.length_append]; simp only [List.length_singleton]; omega
      have g3 : (⟨((([102] : List UInt8) ++ sa) ++ [46]).toArray⟩ : ByteArray).size + (⟨sb.toArray⟩ : ByteArray).size ≤ 9223372036854775807 := by show ((([102] : List UInt8) ++ sa) ++ [46]).length + sb.length ≤ _; rw [List.length_append, List.length_append]; simp only [List.length_singleton]; omega
      refine PSpec.intro Tryz.func88 rfl (by kernel_rfl) rfl rfl ?_
      intro C
      (refine LWP.seq <| rgN <| K.box rfl rfl rfl .plain <| K.box rfl rfl rfl .plain <| kas rfl <| RunK.nil <| LWP.seq <| LWP.seq <| rgN <| kfa rfl rfl ?_; refine kl1 rfl rfl rfl <| RunK.nil <| LWP.block <| LWP.seq <| rgN <| keq rfl rfl (r := false) (beq_eq_false_iff_ne.2 (by omega)) <| kas rfl <| RunK.nil <| LWP.condF rfl ?_; refine LWP.seq <| rgN <| keq rfl rfl (r := true) (beq_iff_eq.2 c) <| kas rfl <| RunK.nil <| LWP.condT rfl ?_; refine LWP.seq <| rgD mixed <| kfa rfl rfl ?_; refine kl1 rfl rfl rfl <| kca rfl rfl hdA <| K.strAdd rfl rfl g1 (str_add [102] sa) .plain <| K.strAdd rfl rfl g2 (str_add ([102] ++ sa) [46]) .plain <| kfa rfl rfl ?_; refine kl1 rfl rfl rfl <| kca rfl rfl hdB <| K.strAdd rfl rfl g3 (str_add (([102] ++ sa) ++ [46]) sb) .plain <| kas rfl <| RunK.nil <| rgA ?_; refine LWP.ret ?_)
      exact ⟨[_], ⟨rfl, trivial⟩, rfl⟩
    · rw [show leafS x = ([102] ++ dg1 x.a) ++ [64] by unfold leafS; rw [if_neg (by omega), if_neg (by omega), if_pos c]]
      unfold dg1
      generalize Lib.itoa x.a = sa at *
      have g1 : (⟨([102] : List UInt8).toArray⟩ : ByteArray).size + (⟨sa.toArray⟩ : ByteArray).size ≤ 9223372036854775807 := by show 1 + sa.length ≤ _; omega
      have g2 : (⟨(([102] : List UInt8) ++ sa).toArray⟩ : ByteArray).size + (⟨([64] : List UInt8).toArray⟩ : ByteArray).size ≤ 9223372036854775807 := by show (([102] : List UInt8) ++ sa).length + 1 ≤ _; rw [List.length_append]; simp only [List.length_singleton]; omega
      refine PSpec.intro Tryz.func88 rfl (by kernel_rfl) rfl rfl ?_
      intro C
      (refine LWP.seq <| rgN <| K.box rfl rfl rfl .plain <| K.box rfl rfl rfl .plain <| kas rfl <| RunK.nil <| LWP.seq <| LWP.seq <| rgN <| kfa rfl rfl ?_; refine kl1 rfl rfl rfl <| RunK.nil <| LWP.block <| LWP.seq <| rgN <| keq rfl rfl (r := false) (beq_eq_false_iff_ne.2 (by omega)) <| kas rfl <| RunK.nil <| LWP.condF rfl ?_; refine LWP.seq <| rgN <| keq rfl rfl (r := false) (beq_eq_false_iff_ne.2 (by omega)) <| kas rfl <| RunK.nil <| LWP.condF rfl ?_; refine LWP.seq <| rgN <| keq rfl rfl (r := true) (beq_iff_eq.2 c) <| kas rfl <| RunK.nil <| LWP.condT rfl ?_; refine LWP.seq <| rgN <| kfa rfl rfl ?_; refine kl1 rfl rfl rfl <| kca rfl rfl hdA <| K.strAdd rfl rfl g1 (str_add [102] sa) .plain <| K.strAdd rfl rfl g2 (str_add ([102] ++ sa) [64]) .plain <| kas rfl <| RunK.nil <| LWP.ret ?_)
      exact ⟨[_], ⟨rfl, trivial⟩, rfl⟩
    · rw [show leafS x = [64] by unfold leafS; rw [if_neg (by omega), if_neg (by omega), if_neg (by omega)]]
      refine PSpec.intro Tryz.func88 rfl (by kernel_rfl) rfl rfl ?_
      intro C
      (refine LWP.seq <| rgN <| K.box rfl rfl rfl .plain <| K.box rfl rfl rfl .plain <| kas rfl <| RunK.nil <| LWP.seq <| LWP.seq <| rgN <| kfa rfl rfl ?_; refine kl1 rfl rfl rfl <| RunK.nil <| LWP.block <| LWP.seq <| rgN <| keq rfl rfl (r := false) (beq_eq_false_iff_ne.2 (by omega)) <| kas rfl <| RunK.nil <| LWP.condF rfl ?_; refine LWP.seq <| rgN <| keq rfl rfl (r := false) (beq_eq_false_iff_ne.2 (by omega)) <| kas rfl <| RunK.nil <| LWP.condF rfl ?_; refine LWP.seq <| rgN <| keq rfl rfl (r := false) (beq_eq_false_iff_ne.2 (by omega)) <| kas rfl <| RunK.nil <| LWP.condF rfl ?_; refine LWP.seq <| rgN <| keq rfl rfl (r := true) (beq_iff_eq.2 c) <| kas rfl <| RunK.nil <| LWP.condT rfl ?_; refine LWP.seq <| rgN <| kas rfl <| RunK.nil <| LWP.ret ?_)
      exact ⟨[_], ⟨rfl, trivial⟩, rfl⟩
  · have h5 : 5 ≤ x.op ∧ x.op ≤ 17 := by
      refine ⟨?_, h17.2⟩
      unfold takes at h0
      split at h0
      · omega
      · split at h0
        · omega
        · split at h0 <;> omega
    have hw : wordS x.op = wordX x.op := if_pos h5
    have hwl := word_len x.op
    rw [show shownX x ts = ((wordX x.op ++ [40]) ++ joinS ts) ++ [41] from if_neg h0, ← hw]
    rw [← hw] at hwl
    have hjl := joinS_len (l := ts) (by omega) hs
    have hJ := join_x X tad tcap ts hts (by omega) hcap (by omega) hs
    generalize joinS ts = js at *
    have g1 : (⟨(wordS x.op).toArray⟩ : ByteArray).size + (⟨([40] : List UInt8).toArray⟩ : ByteArray).size ≤ 9223372036854775807 := by show (wordS x.op).length + 1 ≤ _; omega
    have g2 : (⟨(wordS x.op ++ [40]).toArray⟩ : ByteArray).size + (⟨js.toArray⟩ : ByteArray).size ≤ 9223372036854775807 := by show (wordS x.op ++ [40]).length + js.length ≤ _; rw [List.length_append]; simp only [List.length_singleton]; omega
    have g3 : (⟨((wordS x.op ++ [40]) ++ js).toArray⟩ : ByteArray).size + (⟨([41] : List UInt8).toArray⟩ : ByteArray).size ≤ 9223372036854775807 := by show ((wordS x.op ++ [40]) ++ js).length + 1 ≤ _; rw [List.length_append, List.length_append]; simp only [List.length_singleton]; omega
    refine PSpec.intro Tryz.func88 rfl (by kernel_rfl) rfl rfl ?_
    intro C
    (refine LWP.seq <| rgN <| K.box rfl rfl rfl .plain <| K.box rfl rfl rfl .plain <| kas rfl <| RunK.nil <| LWP.seq <| LWP.seq <| rgN <| kfa rfl rfl ?_; refine kl1 rfl rfl rfl <| RunK.nil <| LWP.block <| LWP.seq <| rgN <| keq rfl rfl (r := false) (beq_eq_false_iff_ne.2 (by omega)) <| kas rfl <| RunK.nil <| LWP.condF rfl ?_; refine LWP.seq <| rgN <| keq rfl rfl (r := false) (beq_eq_false_iff_ne.2 (by omega)) <| kas rfl <| RunK.nil <| LWP.condF rfl ?_; refine LWP.seq <| rgN <| keq rfl rfl (r := false) (beq_eq_false_iff_ne.2 (by omega)) <| kas rfl <| RunK.nil <| LWP.condF rfl ?_; refine LWP.seq <| rgN <| keq rfl rfl (r := false) (beq_eq_false_iff_ne.2 (by omega)) <| kas rfl <| RunK.nil <| LWP.condF rfl ?_; refine LWP.skip ?_; refine LWP.seq <| rgD mixed <| kfa rfl rfl ?_; refine kl1 rfl rfl rfl <| K.strAdd rfl rfl g1 (str_add (wordS x.op) [40]) .plain <| kmv rfl <| kca rfl rfl hJ <| K.strAdd rfl rfl g2 (str_add (wordS x.op ++ [40]) js) .plain <| K.strAdd rfl rfl g3 (str_add ((wordS x.op ++ [40]) ++ js) [41]) .plain <| kas rfl <| RunK.nil <| rgA ?_; refine LWP.ret ?_)
    exact ⟨[_], ⟨rfl, trivial⟩, rfl⟩
theorem tShow1 (hT : XTab X) (x : Ins) (hx : smallI x) (hok : okI x = true) (f : FuncId) (caps : List Value) (tad : Option Addr) (tcap : Nat) (ts : List (List UInt8)) (hts : TsIn X tad ts) (hlen : ts.length = takes x.op) (hcap : ts.length ≤ tcap) (hs : (ts.map List.length).sum ≤ 3200) :
    PSpec Tryz.prog X 87 [LRow x.op (.val (.func (.func f) #[] caps.toArray)), LIn x, Lx tad ts.length tcap] (.tup [Ss (shownX x ts), Sn .i64 0]) := by
  have hP := tShown X hT x hx hok f caps tad tcap ts hts hlen hcap hs
  generalize shownX x ts = r at *
  refine PSpec.intro Tryz.func87 rfl (by kernel_rfl) rfl rfl ?_
  intro C
  (refine LWP.seq <| rgN <| K.box rfl rfl rfl .plain <| K.box rfl rfl rfl .plain <| kas rfl <| kas rfl <| RunK.nil <| LWP.seq <| rgN <| K.loadAll rfl rfl rfl .plain ?_; refine K.loadAll rfl rfl rfl .plain ?_; refine kmv rfl <| kca rfl rfl (hP) <| kas rfl <| kas rfl <| RunK.nil <| LWP.ret ?_)
  exact ⟨[_, _], ⟨rfl, rfl, trivial⟩, rfl⟩
abbrev rsSt (rad ad : Option Addr) (n rcap cap i : Nat) (ms : List (Nat × LV)) (mb : List (Nat × Option Box)) (Y : Nat → Option Obj) : St :=
  ⟨ms ++ [(0, Lx rad n rcap), (1, Lx ad n cap), (2, .sv (.one (.val (fnV 87)))), (15, Lx rad n rcap), (16, Ln .i64 (n : Nat)), (17, Ln .i64 (i : Nat))], mb, Y⟩
set_option maxHeartbeats 12800000 in
theorem tRunS (hT : XTab X) (l : List Ins) (hchk : chkX l = 0) (ad : Option Addr) (cap : Nat) (hin : InsIn X ad l) (rad : Option Addr) (rcap : Nat) (hrows : RowsOK X rad l) :
    PSpec Tryz.prog X 86 [Lx rad l.length rcap, Lx ad l.length cap, .sv (.one (.val (fnV 87)))] (.tup [Ss (showX l), Sn .i64 0]) := by
  obtain ⟨h64, hdep1⟩ := chkX_zero hchk
  refine PSpec.intro Tryz.func86 rfl (by kernel_rfl) rfl rfl ?_
  intro C
  have hmk : slcBuild Tryz.prog 55 16 = some ((List.replicate 16 [Value.string ⟨#[]⟩]).flatten, 1, 9) := slcBuild_many (z := #[.string ⟨#[]⟩]) (by kernel_rfl) (by kernel_rfl) rfl (by omega)
  (refine LWP.seq <| rgN <| kas rfl <| kas rfl <| RunK.nil <| LWP.seq <| rgN <| K.makeSlc0 (m := 16) (bytes := 16) rfl rfl hmk (by kernel_rfl) (by omega) rfl .plain ?_; refine kas rfl <| RunK.nil <| LWP.seq <| LWP.seq <| rgN <| kmv rfl <| K.lenX rfl SliceT.h rfl .plain ?_; refine kmv rfl <| RunK.nil <| LWP.block ?_)
  refine LWP.loop (fun k σ => ∃ (i : Nat) (st : List (List UInt8)), i ≤ l.length ∧ k = l.length - i ∧ run oneS (l.take i) [] = .ok st ∧ (st.map List.length).sum ≤ 50 * i ∧ dep okI 0 (l.take i) = some st.length ∧ σ = rsSt rad ad l.length rcap cap i [(8, .sv (.one (.slc 500 0 st.length 1)))] [(500, some ⟨9, (txV st.reverse).map .val, true⟩)] X) l.length
    ⟨rsSt rad ad l.length rcap cap 0 [(8, .sv (.one (.slc 500 0 0 1)))] [(500, some ⟨9, [], true⟩)] X, Le.ofR [(500, 14)] (by exact ⟨rfl, rfl, rfl, rfl, rfl, rfl, rfl, trivial⟩) (by repeat' (first | exact trivial | refine And.intro ⟨_, rfl, ?_⟩ ?_ | refine And.intro ⟨_, rfl⟩ ?_ | rfl | exact Box.ren_bytes _ _ _ _ | exact Box.ren_vals _ _ _ _ | exact Box.ren_mid rfl)) (by exact rfl) (by exact rfl) (by repeat' (first | refine all_cons_true ?_ ?_ | rfl | exact bytes_inUse | exact vals_inUse | exact mid_inUse rfl)) (by exact rfl) (by exact rfl), 0, [], by omega, by omega, rfl, Nat.le_refl _, rfl, rfl⟩ ?_
  rintro k σ ⟨i, st, hi, rfl, hst, hst2, hdep, rfl⟩
  by_cases hlt : i < l.length
  · obtain ⟨x, hx⟩ : ∃ x, l[i]? = some x := ⟨_, List.getElem?_eq_getElem hlt⟩
    have hmem := List.mem_of_getElem? hx
    have hsx := hin.small x hmem
    obtain ⟨hok, htk, h16, hdn⟩ := dep_step hdep1 hdep hx
    have hd16 := dep_le (by omega) hdep
    obtain ⟨rblk, roff, rarr, rel, rfr, dv, rfl, hXr, hszr, hcsr, hDv⟩ := hrows.at hx
    obtain ⟨g, gcaps, egv, _⟩ := id hDv
    subst egv
    obtain ⟨blk, off, arr, el, fr, rfl, hX, hsz, hcs, hop⟩ := hin.at hx
    have hio : off + Int.toNat (i : Int) * 6 = off + i * 6 := by simp
    have hior : roff + Int.toNat (i : Int) * 6 = roff + i * 6 := by simp
    have hin0 : 0 ≤ (i : Int) ∧ (i : Int) < (l.length : Nat) := by omega
    obtain ⟨rest, hrest⟩ : ∃ rest, st.length - takes x.op = rest := ⟨_, rfl⟩
    have hsub : IntKind.i64.wrap (((st.length : Nat) : Int) - ((takes x.op : Nat) : Int)) = ((rest : Nat) : Int) := by rw [wrap_i64 (by omega)]; omega
    (refine LWP.seq <| rgN <| klt rfl rfl (decide_eq_true (by omega)) <| RunK.nil <| LWP.seq <| LWP.condT rfl ?_; refine LWP.skip ?_; refine LWP.seq <| LWP.block <| LWP.seq <| rgN <| kmv rfl <| K.indexX rfl rfl SliceT.h hin0 hior .plain <| K.loadXagg rfl hXr (by kernel_rfl) hszr hcsr .plain <| K.alloc rfl .plain ?_; refine kas rfl <| K.storeAll rfl rfl rfl rfl rfl rfl .plain ?_; refine RunK.nil <| LWP.seq <| rgN <| kmv rfl <| K.lenSlc rfl SliceT.h rfl .plain ?_; refine kfa rfl rfl ?_; refine kl1 rfl rfl rfl <| K.sub rfl rfl hsub .plain <| kas rfl <| RunK.nil <| LWP.seq ?_)
    refine LWP.le (σ' := ⟨[(8, .sv (.one (.slc 500 0 st.length 1))), (0, Lx (some ⟨rblk, roff, none⟩) l.length rcap), (1, Lx (some ⟨blk, off, none⟩) l.length cap), (2, .sv (.one (.val (fnV 87)))), (9, Ln .i64 (i : Nat)), (10, Lp 10), (11, Ln .i64 (rest : Nat)), (15, Lx (some ⟨rblk, roff, none⟩) l.length rcap), (16, Ln .i64 (l.length : Nat)), (17, Ln .i64 (i : Nat))], [(500, some ⟨9, (txV st.reverse).map .val, true⟩), (10, some ⟨137, (rowVs (x.op, .func (.func g) #[] gcaps.toArray)).map .val, false⟩)], X⟩) (Le.of (by exact ⟨rfl, rfl, rfl, rfl, rfl, rfl, rfl, rfl, rfl, rfl, trivial⟩) (by exact ⟨rfl, rfl, trivial⟩) (by exact rfl) (by exact rfl) (by repeat' (first | refine all_cons_true ?_ ?_ | rfl | exact bytes_inUse | exact vals_inUse | exact mid_inUse rfl))) ?_
    refine LWP.freeze rfl (by exact (by repeat' (first | refine all_cons_true ?_ ?_ | rfl | exact bytes_inUse | exact vals_inUse | exact mid_inUse rfl))) rfl fun sb scap sarr sfr hn hFz hcp hfit hsp => ?_
    have hXZ : MoreM X (withBlock X sb (.cells sarr 9 sfr)) := withBlock_old hn
    have hts : st.reverse.drop rest = (st.take (takes x.op)).reverse := by rw [List.drop_reverse, ← hrest, show st.length - (st.length - takes x.op) = takes x.op by omega]
    have hln : ((st.take (takes x.op)).reverse).length = takes x.op := by rw [List.length_reverse, List.length_take]; omega
    have hN := texts_tail (cap := scap) (rest := rest) (withBlock_at X sb (.cells sarr 9 sfr)) hsp (fun e => List.drop_eq_nil_of_le (by rw [List.length_reverse]; omega))
    rw [hts] at hN
    have hsum : (st.map List.length).sum = (((st.take (takes x.op)).reverse).map List.length).sum + ((st.drop (takes x.op)).map List.length).sum := by
      rw [List.map_reverse, List.sum_reverse, ← List.sum_append, ← List.map_append, List.take_append_drop]
    have hP := tShow1 _ (xtab_mono hXZ hT) x hsx hok g gcaps _ (scap - rest) _ hN hln (by omega) (by omega)
    have hln2 : st.length - rest = ((st.take (takes x.op)).reverse).length := by rw [hln]; omega
    have hXc := hXZ _ _ hX
    have hsn := run_snoc hst hx
    have hnl2 := shownX_len hok hsx.2.2.2 hln
    rw [show oneS x (st.take (takes x.op)).reverse = .ok (shownX x (st.take (takes x.op)).reverse) from rfl] at hsn
    simp only at hsn
    generalize shownX x (st.take (takes x.op)).reverse = u at *
    (refine rgD mixed <| kmv rfl <| K.loadAll rfl rfl rfl .plain ?_; refine kmv rfl <| kmv rfl <| K.indexX rfl rfl SliceT.h hin0 hio .plain <| K.loadXagg rfl hXc (by kernel_rfl) hsz hcs .plain <| kmv rfl <| kmv rfl <| K.cutLoX rfl rfl SliceT.h (by omega) rfl hln2 rfl .plain ?_; refine K.callF (caps := []) rfl rfl rfl hP .plain ?_; refine kmv rfl <| kex rfl rfl <| kex rfl rfl <| kas rfl <| kas rfl <| RunK.nil <| rgA ?_; refine LWP.seq <| LWP.seq <| rgN <| kmv rfl <| kne rfl rfl (r := false) rfl <| RunK.nil <| LWP.condF rfl ?_; refine LWP.skip ?_)
    have hspl : txV st.reverse = txV (st.reverse.take rest) ++ txV (st.reverse.drop rest) := by rw [← txV_app, List.take_append_drop]
    have hsp2 : ∃ sp, sarr.toList = txV (st.reverse.take rest) ++ sp := by
      obtain ⟨sp, hsp⟩ := hsp
      exact ⟨_, by rw [hsp, hspl, List.append_assoc]⟩
    have hrl : (st.reverse.take rest).length = rest := by rw [List.length_take, List.length_reverse]; omega
    refine LWP.le (σ' := ⟨[(8, .sv (.one (.val (.slice (some ⟨sb, 0, none⟩) st.length scap)))), (0, Lx (some ⟨rblk, roff, none⟩) l.length rcap), (1, Lx (some ⟨blk, off, none⟩) l.length cap), (2, .sv (.one (.val (fnV 87)))), (11, Ln .i64 (rest : Nat)), (12, Ls u), (15, Lx (some ⟨rblk, roff, none⟩) l.length rcap), (16, Ln .i64 (l.length : Nat)), (17, Ln .i64 (i : Nat))], [], withBlock X sb (.cells sarr 9 sfr)⟩) (Le.of (by exact ⟨rfl, rfl, rfl, rfl, rfl, rfl, rfl, rfl, rfl, trivial⟩) (by exact trivial) (by exact rfl) (by exact rfl) (by repeat' (first | refine all_cons_true ?_ ?_ | rfl | exact bytes_inUse | exact vals_inUse | exact mid_inUse rfl))) ?_
    refine LWP.thaw (k := 500) (sz := 1) (vals := txV (st.reverse.take rest)) hn hFz hcp hfit hsp2 rfl rfl rfl (by decide) ?_
    have hl3 : ((txV (st.reverse.take rest)).map CV.val).length = rest * 1 := by rw [txV_len, hrl]
    have hnc : (txV (st.reverse.take rest)).map CV.val ++ [CV.val (.string ⟨u.toArray⟩)] = (txV (st.reverse.take rest ++ [u])).map CV.val := by rw [txV_app, List.map_append]; rfl
    have hinc : IntKind.i64.wrap (((i : Nat) : Int) + 1) = ((i + 1 : Nat) : Int) := by rw [wrap_i64 (by omega)]; omega
    have hst' : st.reverse.take rest = (st.drop (takes x.op)).reverse := by rw [List.take_reverse, ← hrest, show st.length - (st.length - takes x.op) = takes x.op by omega]
    have hlen2 : (u :: st.drop (takes x.op)).length = rest + 1 := by rw [List.length_cons, List.length_drop]; omega
    (refine rgN <| kmv rfl <| kmv rfl <| K.cutSlc rfl rfl SliceT.h (by omega) .plain <| kmv rfl <| K.buildSlc (zs := [Value.string ⟨#[]⟩]) (sz := 1) (e := 9) (cs' := [.val (.string ⟨u.toArray⟩)]) (by kernel_rfl) rfl rfl rfl rfl rfl rfl .plain <| K.appendSlc (by_ := 16) (e2 := 9) (l2 := [.val (.string ⟨u.toArray⟩)]) (nl := rest + 1) (nc := (txV (st.reverse.take rest ++ [u])).map .val) rfl rfl hl3 rfl rfl (Nat.le_refl _) rfl rfl (by kernel_rfl) (by kernel_rfl) (by omega) (by omega) rfl rfl hnc .plain <| kas rfl <| RunK.nil <| rgN <| kad rfl rfl hinc <| kmv rfl <| RunK.nil ?_)
    exact ⟨l.length - (i + 1), rsSt (some ⟨rblk, roff, none⟩) (some ⟨blk, off, none⟩) l.length rcap cap (i + 1) [(8, .sv (.one (.slc 500 0 (rest + 1) 1)))] [(500, some ⟨9, (txV (st.reverse.take rest ++ [u])).map .val, true⟩)] X, by omega, Le.ofR [(500, 49)] (by exact ⟨rfl, rfl, rfl, rfl, rfl, rfl, rfl, trivial⟩) (by repeat' (first | exact trivial | refine And.intro ⟨_, rfl, ?_⟩ ?_ | refine And.intro ⟨_, rfl⟩ ?_ | rfl | exact Box.ren_bytes _ _ _ _ | exact Box.ren_vals _ _ _ _ | exact Box.ren_mid rfl)) (by exact rfl) (by exact rfl) (by repeat' (first | refine all_cons_true ?_ ?_ | rfl | exact bytes_inUse | exact vals_inUse | exact mid_inUse rfl)) (by exact rfl) (by exact rfl), i + 1, u :: st.drop (takes x.op), by omega, rfl, hsn, by rw [List.map_cons, List.sum_cons]; omega, by rw [hdn, hlen2]; congr 1; omega, by rw [hlen2, List.reverse_cons, ← hst']⟩
  · have e : i = l.length := by omega
    subst e
    rw [List.take_length] at hst hdep
    have hl1 : st.length = 1 := by rw [hdep1] at hdep; exact (Option.some.inj hdep).symm
    match st, hl1, hst with
    | [u], _, hst =>
    rw [show showX l = u by unfold showX; rw [if_pos hchk, hst]]
    show LWP _ _ _ _ _ _
    refine LWP.le (σ' := rsSt rad ad l.length rcap cap l.length [(8, .sv (.one (.slc 500 0 1 1)))] [(500, some ⟨9, [.val (.string ⟨u.toArray⟩)], true⟩)] X) (Le.of (by exact ⟨rfl, rfl, rfl, rfl, rfl, rfl, rfl, trivial⟩) (by exact ⟨rfl, trivial⟩) (by exact rfl) (by exact rfl) (by repeat' (first | refine all_cons_true ?_ ?_ | rfl | exact bytes_inUse | exact vals_inUse | exact mid_inUse rfl))) ?_
    (refine LWP.seq <| rgN <| klt rfl rfl (decide_eq_false (by omega)) <| RunK.nil <| LWP.seq <| LWP.condF rfl ?_; refine LWP.exit <| LWP.seq <| rgN <| kmv rfl <| K.indexSlc (off' := 0) rfl rfl (by omega) rfl .plain ?_; refine kl1 rfl rfl rfl <| kas rfl <| kas rfl <| RunK.nil <| LWP.ret ?_)
    exact ⟨[_, _], ⟨rfl, rfl, trivial⟩, rfl⟩
set_option maxHeartbeats 3200000 in
theorem gShow' (hT : XTab X) (l : List Ins) (ad : Option Addr) (cap : Nat) (hin : InsIn X ad l) (hbig : l.length < 1152921504606846976) : PSpec Tryz.prog X 71 [Lx ad l.length cap] (Ls (showX l)) := by
  have hR := tRowsOf X l ad cap hin hbig
  refine PSpec.intro Tryz.func71 rfl (by kernel_rfl) rfl rfl ?_
  intro C
  by_cases h : chkX l = 0
  · rw [(rs_ok h).1, (rs_ok h).2] at hR
    (refine LWP.seq <| rgN <| kas rfl <| RunK.nil <| LWP.seq <| rgN <| kmv rfl <| K.callMp [(1000001, 500)] (.tup [.one (.slc 500 0 l.length 6), Sn .i64 0]) [(500, some ⟨0, [], .res (rowsR l)⟩)] (hR) rfl rfl (by exact trivial) rfl rfl rfl rfl rfl (by exact (.box rfl rfl .nil)) .plain <| kmv rfl <| kex rfl rfl <| kex rfl rfl <| kas rfl <| kas rfl <| RunK.nil ?_; refine LWP.seq <| LWP.seq <| rgN <| kmv rfl <| kne rfl rfl ((bne_eq_false_iff_eq.2 (by omega))) <| RunK.nil <| LWP.condF rfl ?_; refine LWP.skip ?_; refine LWP.seq ?_)
    refine LWP.le (σ' := ⟨[(3, .sv (.one (.slc 500 0 l.length 6))), (0, Lx ad l.length cap), (4, Ln .i64 0)], [(500, some ⟨0, [], .res (rowsR l)⟩)], X⟩) (Le.of (by exact ⟨rfl, rfl, rfl, trivial⟩) (by exact ⟨rfl, trivial⟩) (by exact rfl) (by exact rfl) (by repeat' (first | refine all_cons_true ?_ ?_ | rfl | exact bytes_inUse | exact vals_inUse | exact mid_inUse rfl))) ?_
    refine LWP.fixRes rfl rfl rfl fun ρ H rcap hRr hO _ _ => ?_
    obtain ⟨m1, m2⟩ := more_join hO
    have hP := tRunS _ (xtab_mono m1 hT) l h ad cap (hin.mono m1) (some ⟨ρ.1, 0, none⟩) rcap (rows_fix hRr m2)
    generalize showX l = s at *
    (refine rgN <| kmv rfl <| kmv rfl <| kca rfl rfl hP <| kmv rfl <| kex rfl rfl <| kex rfl rfl <| kas rfl <| kas rfl <| RunK.nil <| LWP.seq <| rgN <| kmv rfl <| kas rfl ?_; refine RunK.nil <| LWP.ret ?_)
    exact ⟨[_], ⟨rfl, trivial⟩, rfl⟩
  · rw [(rs_no h).1, (rs_no h).2] at hR
    rw [show showX l = [] from if_neg h]
    (refine LWP.seq <| rgN <| kas rfl <| RunK.nil <| LWP.seq <| rgN <| kmv rfl <| K.callM [] [] (hR) rfl rfl (by exact trivial) rfl rfl rfl rfl rfl (by exact .nil) .plain <| kmv rfl <| kex rfl rfl <| kex rfl rfl <| kas rfl <| kas rfl <| RunK.nil ?_; refine LWP.seq <| LWP.seq <| rgN <| kmv rfl <| kne rfl rfl (r := true) (bne_iff_ne.2 h) <| RunK.nil <| LWP.condT rfl ?_; refine LWP.seq <| rgN <| kas rfl <| RunK.nil <| LWP.ret ?_)
    exact ⟨[_], ⟨rfl, trivial⟩, rfl⟩
end Go.Proofs.YtamplgnbbanamaaGreatDoor
end
section
namespace Go.Proofs.YtamplgnbbanamaaGreatDoor
open Go Go.Lg
variable (X : Nat → Option Obj)
theorem WPart_1 (l s : List UInt8) (hn : fitW 4 (s.length : Nat) = true) (hs : s.length < 100000000) (hl : l.length < 800000000) : MSpec Tryz.prog X 55 [Lp 1000000, Ls s] (w1 1000000 1000001 1000002 l) (Lb true) (w1 1000000 1000001 1000003 ((l ++ leB 4 s.length) ++ s) ++ [(1000002, none)]) := by
  have hf : s.length < 256 ^ 4 := by unfold fitW at hn; simp only [Bool.and_eq_true, decide_eq_true_eq] at hn; exact hn.2
  refine MSpec.intro Tryz.func55 rfl (by kernel_rfl) rfl rfl (by repeat' (first | refine all_cons_true ?_ ?_ | rfl | exact bytes_inUse | exact vals_inUse | exact mid_inUse rfl)) rfl rfl ?_
  intro C
  have hz : (⟨s.toArray⟩ : ByteArray).size = s.length := rfl
  have wl : IntKind.u64.wrap (((⟨s.toArray⟩ : ByteArray).size : Nat) : Int) = (s.length : Nat) := by rw [wrap_u64 (by omega)]; rfl
  (refine LWP.seq <| rgN <| kas rfl <| RunK.nil <| LWP.seq <| rgN <| kmv rfl <| kmv rfl <| kln rfl <| kcv rfl wl ?_; refine K.callM [(1000003, 501)] (w1 1000000 1000001 501 (l ++ leB 4 s.length) ++ [(1000002, none)]) (WNum_1_4 X l s.length (by omega) hf (by omega)) rfl rfl (by exact (And.intro ⟨_, rfl, rfl⟩ (And.intro ⟨_, rfl, rfl⟩ (And.intro ⟨_, rfl, (Box.ren_bytes _ _ _ _)⟩ trivial)))) (by exact (all_cons_true (all_cons_true rfl (all_cons_true rfl rfl)) (all_cons_true (all_cons_true rfl rfl) (all_cons_true bytes_inUse rfl)))) rfl rfl rfl rfl (by exact (.box rfl rfl (.box rfl rfl (.box rfl (Box.ren_bytes _ _ _ _) (.dead rfl .nil))))) .plain <| kmv rfl <| gmv rfl rfl rfl <| gmv rfl rfl rfl <| K.callM [(1000002, 501), (1000003, 503)] (w1 1000000 1000001 503 ((l ++ leB 4 s.length) ++ s) ++ [(501, none)]) (WRaw_1 X (l ++ leB 4 s.length) s (by rw [List.length_append, leB_length]; omega)) rfl rfl (by exact (And.intro ⟨_, rfl, rfl⟩ (And.intro ⟨_, rfl, rfl⟩ (And.intro ⟨_, rfl, (Box.ren_bytes _ _ _ _)⟩ trivial)))) (by exact (all_cons_true (all_cons_true rfl (all_cons_true rfl rfl)) (all_cons_true (all_cons_true rfl rfl) (all_cons_true bytes_inUse rfl)))) rfl rfl rfl rfl (by exact (.box rfl rfl (.box rfl rfl (.box rfl (Box.ren_bytes _ _ _ _) (.dead rfl .nil))))) (.taken rfl rfl) ?_; refine kpt rfl rfl <| kas rfl <| RunK.nil <| LWP.ret ?_)
  exact ⟨[(1000003, 503)], ⟨[_], ⟨rfl, trivial⟩, rfl⟩, (by repeat' (first | exact trivial | refine And.intro ⟨_, rfl, ?_⟩ ?_ | refine And.intro ⟨_, rfl⟩ ?_ | rfl | exact Box.ren_bytes _ _ _ _ | exact Box.ren_vals _ _ _ _ | exact Box.ren_mid rfl)), rfl, rfl⟩
end Go.Proofs.YtamplgnbbanamaaGreatDoor
end
section
namespace Go.Proofs.YtamplgnbbanamaaGreatDoor
open Go Go.Lg Go.Lg.Fml Go.Lg.Fld Go.Lg.Arith
set_option maxRecDepth 100000
theorem leB1o (n : Nat) : leB 1 n = [o8 (n : Nat)] := by
  simp only [leB]
  congr 1
abbrev LOp (op : Int) : LV := .sv (.agg [.val (.bool (op == 2 || op == 3)), .val (.bool (op == 2)), .val (.bool (op == 1))])
theorem op_1 : LOp 1 = .sv (.agg [.val (.bool false), .val (.bool false), .val (.bool true)]) := rfl
theorem op_2 : LOp 2 = .sv (.agg [.val (.bool true), .val (.bool true), .val (.bool false)]) := rfl
theorem op_3 : LOp 3 = .sv (.agg [.val (.bool true), .val (.bool false), .val (.bool false)]) := rfl
theorem op_no {op : Int} (h1 : op ≠ 1) (h2 : op ≠ 2) (h3 : op ≠ 3) : LOp op = .sv (.agg [.val (.bool false), .val (.bool false), .val (.bool false)]) := by
  unfold LOp
  rw [beq_eq_false_iff_ne.2 h1, beq_eq_false_iff_ne.2 h2, beq_eq_false_iff_ne.2 h3]
  rfl
variable (X : Nat → Option Obj)
set_option maxHeartbeats 6400000 in
theorem tOnly3 (A B K : Bool) (x : Ins) (hx : smallI x) : PSpec Tryz.prog X 77 [.sv (.agg [.val (.bool A), .val (.bool B), .val (.bool K)]), LIn x] (Lb ((A || (x.a == 0)) && (B || (x.b == 0)) && (K || decide (x.k = (false, 0))))) := by
  have q := eqI (b := x.k.1) (b' := false) (h := x.k.2 / 18446744073709551616) (h' := 0) (l := x.k.2 % 18446744073709551616) (l' := 0) _ (eqZ hx.2.2.2)
  rw [show decide (((x.k.1, x.k.2) : Nm) = (false, 0)) = decide (x.k = (false, 0)) from rfl] at q
  generalize hr : decide (x.k = (false, 0)) = r at *
  generalize hp : (x.a == 0) = p
  generalize hq : (x.b == 0) = s
  cases A <;> cases p <;> cases B <;> cases s <;> cases K
  all_goals
    refine PSpec.intro Tryz.func77 rfl (by kernel_rfl) rfl rfl ?_
    intro C
    (first | (refine LWP.seq <| rgN <| K.box rfl rfl rfl .plain <| K.box rfl rfl rfl .plain <| kas rfl <| RunK.nil <| LWP.seq <| rgN <| kfa rfl rfl ?_; refine kl1 rfl rfl rfl <| kmv rfl <| K.fieldAddr rfl rfl (.taken rfl rfl) ?_; refine K.loadOne rfl rfl rfl (.taken rfl rfl) ?_; refine K.eql rfl rfl hp (.taken rfl rfl) ?_; refine kpf rfl rfl <| kmv rfl <| K.fieldAddr rfl rfl (.taken rfl rfl) ?_; refine K.loadOne rfl rfl rfl (.taken rfl rfl) ?_; refine gmv rfl rfl rfl <| K.fieldAddr rfl rfl (.taken rfl rfl) ?_; refine K.loadOne rfl rfl rfl (.taken rfl rfl) ?_; refine K.eql rfl rfl hq (.taken rfl rfl) ?_; refine K.pickF rfl rfl (.taken rfl rfl) ?_; refine kpt rfl rfl <| kmv rfl <| K.fieldAddr rfl rfl (.taken rfl rfl) ?_; refine K.loadOne rfl rfl rfl (.taken rfl rfl) ?_; refine gmv rfl rfl rfl <| K.fieldAddr rfl rfl (.taken rfl rfl) ?_; refine K.loadPart rfl rfl rfl (by exact nl3 rfl rfl rfl rfl) (.taken rfl rfl) ?_; refine K.build rfl rfl (by exact rfl) (by exact nl3 rfl rfl rfl rfl) (.taken rfl rfl) ?_; refine K.aggEq rfl rfl rfl rfl (by kernel_rfl) q (.inl ⟨rfl, rfl⟩) (.taken rfl rfl) ?_; refine K.pickF rfl rfl (.taken rfl rfl) ?_; refine kpt rfl rfl <| kas rfl <| RunK.nil <| LWP.ret ?_) | (refine LWP.seq <| rgN <| K.box rfl rfl rfl .plain <| K.box rfl rfl rfl .plain <| kas rfl <| RunK.nil <| LWP.seq <| rgN <| kfa rfl rfl ?_; refine kl1 rfl rfl rfl <| kmv rfl <| K.fieldAddr rfl rfl (.taken rfl rfl) ?_; refine K.loadOne rfl rfl rfl (.taken rfl rfl) ?_; refine K.eql rfl rfl hp (.taken rfl rfl) ?_; refine kpf rfl rfl <| kmv rfl <| K.fieldAddr rfl rfl (.taken rfl rfl) ?_; refine K.loadOne rfl rfl rfl (.taken rfl rfl) ?_; refine gmv rfl rfl rfl <| RunK.passed rfl rfl rfl <| RunK.passed rfl rfl rfl <| RunK.passed rfl rfl rfl <| K.pickT rfl rfl (.taken rfl rfl) ?_; refine kpt rfl rfl <| kmv rfl <| K.fieldAddr rfl rfl (.taken rfl rfl) ?_; refine K.loadOne rfl rfl rfl (.taken rfl rfl) ?_; refine gmv rfl rfl rfl <| K.fieldAddr rfl rfl (.taken rfl rfl) ?_; refine K.loadPart rfl rfl rfl (by exact nl3 rfl rfl rfl rfl) (.taken rfl rfl) ?_; refine K.build rfl rfl (by exact rfl) (by exact nl3 rfl rfl rfl rfl) (.taken rfl rfl) ?_; refine K.aggEq rfl rfl rfl rfl (by kernel_rfl) q (.inl ⟨rfl, rfl⟩) (.taken rfl rfl) ?_; refine K.pickF rfl rfl (.taken rfl rfl) ?_; refine kpt rfl rfl <| kas rfl <| RunK.nil <| LWP.ret ?_) | (refine LWP.seq <| rgN <| K.box rfl rfl rfl .plain <| K.box rfl rfl rfl .plain <| kas rfl <| RunK.nil <| LWP.seq <| rgN <| kfa rfl rfl ?_; refine kl1 rfl rfl rfl <| kmv rfl <| RunK.passed rfl rfl rfl <| RunK.passed rfl rfl rfl <| RunK.passed rfl rfl rfl <| kpt rfl rfl <| kmv rfl <| K.fieldAddr rfl rfl (.taken rfl rfl) ?_; refine K.loadOne rfl rfl rfl (.taken rfl rfl) ?_; refine gmv rfl rfl rfl <| K.fieldAddr rfl rfl (.taken rfl rfl) ?_; refine K.loadOne rfl rfl rfl (.taken rfl rfl) ?_; refine K.eql rfl rfl hq (.taken rfl rfl) ?_; refine K.pickF rfl rfl (.taken rfl rfl) ?_; refine kpt rfl rfl <| kmv rfl <| K.fieldAddr rfl rfl (.taken rfl rfl) ?_; refine K.loadOne rfl rfl rfl (.taken rfl rfl) ?_; refine gmv rfl rfl rfl <| K.fieldAddr rfl rfl (.taken rfl rfl) ?_; refine K.loadPart rfl rfl rfl (by exact nl3 rfl rfl rfl rfl) (.taken rfl rfl) ?_; refine K.build rfl rfl (by exact rfl) (by exact nl3 rfl rfl rfl rfl) (.taken rfl rfl) ?_; refine K.aggEq rfl rfl rfl rfl (by kernel_rfl) q (.inl ⟨rfl, rfl⟩) (.taken rfl rfl) ?_; refine K.pickF rfl rfl (.taken rfl rfl) ?_; refine kpt rfl rfl <| kas rfl <| RunK.nil <| LWP.ret ?_) | (refine LWP.seq <| rgN <| K.box rfl rfl rfl .plain <| K.box rfl rfl rfl .plain <| kas rfl <| RunK.nil <| LWP.seq <| rgN <| kfa rfl rfl ?_; refine kl1 rfl rfl rfl <| kmv rfl <| RunK.passed rfl rfl rfl <| RunK.passed rfl rfl rfl <| RunK.passed rfl rfl rfl <| kpt rfl rfl <| kmv rfl <| K.fieldAddr rfl rfl (.taken rfl rfl) ?_; refine K.loadOne rfl rfl rfl (.taken rfl rfl) ?_; refine gmv rfl rfl rfl <| RunK.passed rfl rfl rfl <| RunK.passed rfl rfl rfl <| RunK.passed rfl rfl rfl <| K.pickT rfl rfl (.taken rfl rfl) ?_; refine kpt rfl rfl <| kmv rfl <| K.fieldAddr rfl rfl (.taken rfl rfl) ?_; refine K.loadOne rfl rfl rfl (.taken rfl rfl) ?_; refine gmv rfl rfl rfl <| K.fieldAddr rfl rfl (.taken rfl rfl) ?_; refine K.loadPart rfl rfl rfl (by exact nl3 rfl rfl rfl rfl) (.taken rfl rfl) ?_; refine K.build rfl rfl (by exact rfl) (by exact nl3 rfl rfl rfl rfl) (.taken rfl rfl) ?_; refine K.aggEq rfl rfl rfl rfl (by kernel_rfl) q (.inl ⟨rfl, rfl⟩) (.taken rfl rfl) ?_; refine K.pickF rfl rfl (.taken rfl rfl) ?_; refine kpt rfl rfl <| kas rfl <| RunK.nil <| LWP.ret ?_) | (refine LWP.seq <| rgN <| K.box rfl rfl rfl .plain <| K.box rfl rfl rfl .plain <| kas rfl <| RunK.nil <| LWP.seq <| rgN <| kfa rfl rfl ?_; refine kl1 rfl rfl rfl <| kmv rfl <| K.fieldAddr rfl rfl (.taken rfl rfl) ?_; refine K.loadOne rfl rfl rfl (.taken rfl rfl) ?_; refine K.eql rfl rfl hp (.taken rfl rfl) ?_; refine kpf rfl rfl <| kmv rfl <| K.fieldAddr rfl rfl (.taken rfl rfl) ?_; refine K.loadOne rfl rfl rfl (.taken rfl rfl) ?_; refine gmv rfl rfl rfl <| K.fieldAddr rfl rfl (.taken rfl rfl) ?_; refine K.loadOne rfl rfl rfl (.taken rfl rfl) ?_; refine K.eql rfl rfl hq (.taken rfl rfl) ?_; refine K.pickF rfl rfl (.taken rfl rfl) ?_; refine kpt rfl rfl <| kmv rfl <| K.fieldAddr rfl rfl (.taken rfl rfl) ?_; refine K.loadOne rfl rfl rfl (.taken rfl rfl) ?_; refine gmv rfl rfl rfl <| RunK.passed rfl rfl rfl <| RunK.passed rfl rfl rfl <| RunK.passed rfl rfl rfl <| RunK.passed rfl rfl rfl <| K.pickT rfl rfl (.taken rfl rfl) ?_; refine kpt rfl rfl <| kas rfl <| RunK.nil <| LWP.ret ?_) | (refine LWP.seq <| rgN <| K.box rfl rfl rfl .plain <| K.box rfl rfl rfl .plain <| kas rfl <| RunK.nil <| LWP.seq <| rgN <| kfa rfl rfl ?_; refine kl1 rfl rfl rfl <| kmv rfl <| K.fieldAddr rfl rfl (.taken rfl rfl) ?_; refine K.loadOne rfl rfl rfl (.taken rfl rfl) ?_; refine K.eql rfl rfl hp (.taken rfl rfl) ?_; refine kpf rfl rfl <| kmv rfl <| K.fieldAddr rfl rfl (.taken rfl rfl) ?_; refine K.loadOne rfl rfl rfl (.taken rfl rfl) ?_; refine gmv rfl rfl rfl <| RunK.passed rfl rfl rfl <| RunK.passed rfl rfl rfl <| RunK.passed rfl rfl rfl <| K.pickT rfl rfl (.taken rfl rfl) ?_; refine kpt rfl rfl <| kmv rfl <| K.fieldAddr rfl rfl (.taken rfl rfl) ?_; refine K.loadOne rfl rfl rfl (.taken rfl rfl) ?_; refine gmv rfl rfl rfl <| RunK.passed rfl rfl rfl <| RunK.passed rfl rfl rfl <| RunK.passed rfl rfl rfl <| RunK.passed rfl rfl rfl <| K.pickT rfl rfl (.taken rfl rfl) ?_; refine kpt rfl rfl <| kas rfl <| RunK.nil <| LWP.ret ?_) | (refine LWP.seq <| rgN <| K.box rfl rfl rfl .plain <| K.box rfl rfl rfl .plain <| kas rfl <| RunK.nil <| LWP.seq <| rgN <| kfa rfl rfl ?_; refine kl1 rfl rfl rfl <| kmv rfl <| RunK.passed rfl rfl rfl <| RunK.passed rfl rfl rfl <| RunK.passed rfl rfl rfl <| kpt rfl rfl <| kmv rfl <| K.fieldAddr rfl rfl (.taken rfl rfl) ?_; refine K.loadOne rfl rfl rfl (.taken rfl rfl) ?_; refine gmv rfl rfl rfl <| K.fieldAddr rfl rfl (.taken rfl rfl) ?_; refine K.loadOne rfl rfl rfl (.taken rfl rfl) ?_; refine K.eql rfl rfl hq (.taken rfl rfl) ?_; refine K.pickF rfl rfl (.taken rfl rfl) ?_; refine kpt rfl rfl <| kmv rfl <| K.fieldAddr rfl rfl (.taken rfl rfl) ?_; refine K.loadOne rfl rfl rfl (.taken rfl rfl) ?_; refine gmv rfl rfl rfl <| RunK.passed rfl rfl rfl <| RunK.passed rfl rfl rfl <| RunK.passed rfl rfl rfl <| RunK.passed rfl rfl rfl <| K.pickT rfl rfl (.taken rfl rfl) ?_; refine kpt rfl rfl <| kas rfl <| RunK.nil <| LWP.ret ?_) | (refine LWP.seq <| rgN <| K.box rfl rfl rfl .plain <| K.box rfl rfl rfl .plain <| kas rfl <| RunK.nil <| LWP.seq <| rgN <| kfa rfl rfl ?_; refine kl1 rfl rfl rfl <| kmv rfl <| K.fieldAddr rfl rfl (.taken rfl rfl) ?_; refine K.loadOne rfl rfl rfl (.taken rfl rfl) ?_; refine K.eql rfl rfl hp (.taken rfl rfl) ?_; refine kpf rfl rfl <| kmv rfl <| K.fieldAddr rfl rfl (.taken rfl rfl) ?_; refine K.loadOne rfl rfl rfl (.taken rfl rfl) ?_; refine gmv rfl rfl rfl <| K.fieldAddr rfl rfl (.taken rfl rfl) ?_; refine K.loadOne rfl rfl rfl (.taken rfl rfl) ?_; refine K.eql rfl rfl hq (.taken rfl rfl) ?_; refine K.pickF rfl rfl (.taken rfl rfl) ?_; refine kpt rfl rfl <| kmv rfl <| RunK.passed rfl rfl rfl <| RunK.passed rfl rfl rfl <| RunK.passed rfl rfl rfl <| RunK.passedU rfl rfl <| RunK.passedU rfl rfl <| RunK.passedU rfl rfl <| RunK.passedU rfl rfl <| RunK.passed rfl rfl rfl <| kpf rfl rfl <| kas rfl <| RunK.nil <| LWP.ret ?_) | (refine LWP.seq <| rgN <| K.box rfl rfl rfl .plain <| K.box rfl rfl rfl .plain <| kas rfl <| RunK.nil <| LWP.seq <| rgN <| kfa rfl rfl ?_; refine kl1 rfl rfl rfl <| kmv rfl <| RunK.passed rfl rfl rfl <| RunK.passed rfl rfl rfl <| RunK.passed rfl rfl rfl <| kpt rfl rfl <| kmv rfl <| K.fieldAddr rfl rfl (.taken rfl rfl) ?_; refine K.loadOne rfl rfl rfl (.taken rfl rfl) ?_; refine gmv rfl rfl rfl <| RunK.passed rfl rfl rfl <| RunK.passed rfl rfl rfl <| RunK.passed rfl rfl rfl <| K.pickT rfl rfl (.taken rfl rfl) ?_; refine kpt rfl rfl <| kmv rfl <| K.fieldAddr rfl rfl (.taken rfl rfl) ?_; refine K.loadOne rfl rfl rfl (.taken rfl rfl) ?_; refine gmv rfl rfl rfl <| RunK.passed rfl rfl rfl <| RunK.passed rfl rfl rfl <| RunK.passed rfl rfl rfl <| RunK.passed rfl rfl rfl <| K.pickT rfl rfl (.taken rfl rfl) ?_; refine kpt rfl rfl <| kas rfl <| RunK.nil <| LWP.ret ?_) | (refine LWP.seq <| rgN <| K.box rfl rfl rfl .plain <| K.box rfl rfl rfl .plain <| kas rfl <| RunK.nil <| LWP.seq <| rgN <| kfa rfl rfl ?_; refine kl1 rfl rfl rfl <| kmv rfl <| RunK.passed rfl rfl rfl <| RunK.passed rfl rfl rfl <| RunK.passed rfl rfl rfl <| kpt rfl rfl <| kmv rfl <| K.fieldAddr rfl rfl (.taken rfl rfl) ?_; refine K.loadOne rfl rfl rfl (.taken rfl rfl) ?_; refine gmv rfl rfl rfl <| K.fieldAddr rfl rfl (.taken rfl rfl) ?_; refine K.loadOne rfl rfl rfl (.taken rfl rfl) ?_; refine K.eql rfl rfl hq (.taken rfl rfl) ?_; refine K.pickF rfl rfl (.taken rfl rfl) ?_; refine kpt rfl rfl <| kmv rfl <| RunK.passed rfl rfl rfl <| RunK.passed rfl rfl rfl <| RunK.passed rfl rfl rfl <| RunK.passedU rfl rfl <| RunK.passedU rfl rfl <| RunK.passedU rfl rfl <| RunK.passedU rfl rfl <| RunK.passed rfl rfl rfl <| kpf rfl rfl <| kas rfl <| RunK.nil <| LWP.ret ?_) | (refine LWP.seq <| rgN <| K.box rfl rfl rfl .plain <| K.box rfl rfl rfl .plain <| kas rfl <| RunK.nil <| LWP.seq <| rgN <| kfa rfl rfl ?_; refine kl1 rfl rfl rfl <| kmv rfl <| K.fieldAddr rfl rfl (.taken rfl rfl) ?_; refine K.loadOne rfl rfl rfl (.taken rfl rfl) ?_; refine K.eql rfl rfl hp (.taken rfl rfl) ?_; refine kpf rfl rfl <| kmv rfl <| RunK.passed rfl rfl rfl <| RunK.passed rfl rfl rfl <| RunK.passed rfl rfl rfl <| RunK.passedU rfl rfl <| RunK.passedU rfl rfl <| RunK.passedU rfl rfl <| RunK.passed rfl rfl rfl <| kpf rfl rfl <| kmv rfl <| RunK.passed rfl rfl rfl <| RunK.passed rfl rfl rfl <| RunK.passed rfl rfl rfl ?_; refine RunK.passedU rfl rfl <| RunK.passedU rfl rfl <| RunK.passedU rfl rfl <| RunK.passedU rfl rfl <| RunK.passed rfl rfl rfl <| kpf rfl rfl <| kas rfl <| RunK.nil <| LWP.ret ?_))
    exact ⟨[_], ⟨rfl, trivial⟩, rfl⟩
theorem tOnly (x : Ins) (hx : smallI x) : PSpec Tryz.prog X 77 [LOp x.op, LIn x] (Lb (plainI x)) := by
  have h := tOnly3 X (x.op == 2 || x.op == 3) (x.op == 2) (x.op == 1) x hx
  have e : (((x.op == 2 || x.op == 3) || (x.a == 0)) && ((x.op == 2) || (x.b == 0)) && ((x.op == 1) || decide (x.k = (false, 0)))) = plainI x := by
    unfold plainI
    have hb : ∀ a b : Int, (a == b) = decide (a = b) := fun a b => rfl
    rw [hb, hb, hb, hb, hb]
    generalize decide (x.op = 1) = a1
    generalize decide (x.op = 2) = a2
    generalize decide (x.op = 3) = a3
    generalize decide (x.a = 0) = b1
    generalize decide (x.b = 0) = b2
    generalize decide (x.k = (false, 0)) = b3
    cases a1 <;> cases a2 <;> cases a3 <;> cases b1 <;> cases b2 <;> cases b3 <;> rfl
  rw [e] at h
  exact h
theorem ePut_0 (n : Nat) (h : n < 256) : MSpec Tryz.prog X 76 [Lp 1000000, Ln .i64 (n : Nat)] (w0 1000000) (.tup []) (w1 1000000 1000001 1000002 [o8 (n : Nat)]) := by
  have hN := WNum_0_1 X n (by omega) (by omega)
  rw [leB1o n] at hN
  refine MSpec.intro Tryz.func76 rfl (by kernel_rfl) rfl rfl (by repeat' (first | refine all_cons_true ?_ ?_ | rfl | exact bytes_inUse | exact vals_inUse | exact mid_inUse rfl)) rfl rfl ?_
  intro C
  have hw : IntKind.u64.wrap ((n : Nat) : Int) = ((n : Nat) : Int) := wrap_u64 (by omega)
  (refine rgN <| kmv rfl <| kmv rfl <| kcv rfl hw ?_; refine K.callM [(1000001, 501), (1000002, 502)] (w1 1000000 501 502 [o8 (n : Nat)]) (hN) rfl rfl (by exact (And.intro ⟨_, rfl, rfl⟩ trivial)) (by exact (all_cons_true (all_cons_true rfl (all_cons_true rfl rfl)) rfl)) rfl rfl rfl rfl (by exact (.box rfl rfl (.box rfl rfl (.box rfl rfl .nil)))) .plain <| RunK.nil ?_)
  exact ⟨[(1000001, 501), (1000002, 502)], ⟨[], trivial, rfl⟩, (by repeat' (first | exact trivial | refine And.intro ⟨_, rfl, ?_⟩ ?_ | refine And.intro ⟨_, rfl⟩ ?_ | rfl | exact Box.ren_bytes _ _ _ _ | exact Box.ren_vals _ _ _ _ | exact Box.ren_mid rfl)), rfl, rfl⟩
theorem ePut_1 (l : List UInt8) (n : Int) (h : 0 ≤ n ∧ n < 256) (hl : l.length < 900000000) : MSpec Tryz.prog X 76 [Lp 1000000, Ln .i64 n] (w1 1000000 1000001 1000002 l) (.tup []) (w1 1000000 1000001 1000003 (l ++ [o8 n]) ++ [(1000002, none)]) := by
  obtain ⟨k, rfl⟩ := Int.eq_ofNat_of_zero_le h.1
  have hk : k < 256 := by omega
  have hN := WNum_1_1 X l k (by omega) (by omega) hl
  rw [leB1o k] at hN
  refine MSpec.intro Tryz.func76 rfl (by kernel_rfl) rfl rfl (by repeat' (first | refine all_cons_true ?_ ?_ | rfl | exact bytes_inUse | exact vals_inUse | exact mid_inUse rfl)) rfl rfl ?_
  intro C
  have hw : IntKind.u64.wrap ((k : Nat) : Int) = ((k : Nat) : Int) := wrap_u64 (by omega)
  (refine rgN <| kmv rfl <| kmv rfl <| kcv rfl hw ?_; refine K.callM [(1000003, 501)] (w1 1000000 1000001 501 (l ++ [o8 (k : Nat)]) ++ [(1000002, none)]) (hN) rfl rfl (by exact (And.intro ⟨_, rfl, rfl⟩ (And.intro ⟨_, rfl, rfl⟩ (And.intro ⟨_, rfl, (Box.ren_bytes _ _ _ _)⟩ trivial)))) (by exact (all_cons_true (all_cons_true rfl (all_cons_true rfl rfl)) (all_cons_true (all_cons_true rfl rfl) (all_cons_true bytes_inUse rfl)))) rfl rfl rfl rfl (by exact (.box rfl rfl (.box rfl rfl (.box rfl (Box.ren_bytes _ _ _ _) (.dead rfl .nil))))) .plain <| RunK.nil ?_)
  exact ⟨[(1000003, 501)], ⟨[], trivial, rfl⟩, (by repeat' (first | exact trivial | refine And.intro ⟨_, rfl, ?_⟩ ?_ | refine And.intro ⟨_, rfl⟩ ?_ | rfl | exact Box.ren_bytes _ _ _ _ | exact Box.ren_vals _ _ _ _ | exact Box.ren_mid rfl)), rfl, rfl⟩
def numX (k : Nm) : List UInt8 := sgB k.1 :: (leB 8 (loW k.2) ++ leB 8 (hiW k.2))
theorem LI_words {N : Int} (h : In2 N) (b : Bool) : LI b N = Li b ((hiW N : Nat) : Int) ((loW N : Nat) : Int) := by
  obtain ⟨h1, h2, h3⟩ := words h
  unfold LI
  have e1 : N / 18446744073709551616 = ((hiW N : Nat) : Int) := by unfold In2 at h; unfold hiW; omega
  have e2 : N % 18446744073709551616 = ((loW N : Nat) : Int) := by unfold loW; omega
  rw [e1, e2]
set_option maxHeartbeats 3200000 in
theorem ePutNum (l : List UInt8) (k : Nm) (hk : In2 k.2) (hl : l.length < 800000000) : MSpec Tryz.prog X 93 [Lp 1000000, LI k.1 k.2] (w1 1000000 1000001 1000002 l) (.tup []) (w1 1000000 1000001 1000003 (l ++ numX k) ++ [(1000002, none)]) := by
  rw [LI_words hk]
  obtain ⟨_, h2, h3⟩ := words hk
  have hp : (256 : Nat) ^ 8 = 18446744073709551616 := by decide
  obtain ⟨b, N⟩ := k
  unfold numX
  simp only at hk h2 h3 ⊢
  generalize loW N = lo at *
  generalize hiW N = hi at *
  have p1 := fun n h => ePut_1 X l n h (by omega)
  have p2 := WNum_1_8 X (l ++ [sgB b]) lo (by omega) (by omega) (by rw [List.length_append, List.length_singleton]; omega)
  have p3 := WNum_1_8 X ((l ++ [sgB b]) ++ leB 8 lo) hi (by omega) (by omega) (by rw [List.length_append, List.length_append, List.length_singleton, leB_length]; omega)
  have hfin : l ++ sgB b :: (leB 8 lo ++ leB 8 hi) = ((l ++ [sgB b]) ++ leB 8 lo) ++ leB 8 hi := by simp
  rw [hfin]
  refine MSpec.intro Tryz.func93 rfl (by kernel_rfl) rfl rfl (by repeat' (first | refine all_cons_true ?_ ?_ | rfl | exact bytes_inUse | exact vals_inUse | exact mid_inUse rfl)) rfl rfl ?_
  intro C
  cases b with
  | false =>
    have p1 : MSpec Tryz.prog X 76 [Lp 1000000, Ln .i64 0] (w1 1000000 1000001 1000002 l) (.tup []) (w1 1000000 1000001 1000003 (l ++ [sgB false]) ++ [(1000002, none)]) := p1 0 ⟨by decide, by decide⟩
    (refine LWP.seq <| rgN <| K.box rfl rfl rfl .plain <| RunK.nil <| LWP.seq <| rgN <| kas rfl <| RunK.nil <| LWP.seq <| LWP.seq <| rgN <| kfa rfl rfl ?_; refine kl1 rfl rfl rfl <| RunK.nil <| LWP.condF rfl ?_; refine LWP.skip ?_; refine LWP.seq <| rgN <| kmv rfl <| kmv rfl <| K.callM [(1000003, 501)] (w1 1000000 1000001 501 (l ++ [sgB false]) ++ [(1000002, none)]) (p1) rfl rfl (by exact (And.intro ⟨_, rfl, rfl⟩ (And.intro ⟨_, rfl, rfl⟩ (And.intro ⟨_, rfl, (Box.ren_bytes _ _ _ _)⟩ trivial)))) (by exact (all_cons_true (all_cons_true rfl (all_cons_true rfl rfl)) (all_cons_true (all_cons_true rfl rfl) (all_cons_true bytes_inUse rfl)))) rfl rfl rfl rfl (by exact (.box rfl rfl (.box rfl rfl (.box rfl (Box.ren_bytes _ _ _ _) (.dead rfl .nil))))) .plain <| RunK.nil <| LWP.seq <| rgN <| kmv rfl <| kfa rfl rfl ?_; refine kl1 rfl rfl rfl <| K.callM [(1000002, 501), (1000003, 502)] (w1 1000000 1000001 502 ((l ++ [sgB false]) ++ leB 8 lo) ++ [(501, none)]) (p2) rfl rfl (by exact (And.intro ⟨_, rfl, rfl⟩ (And.intro ⟨_, rfl, rfl⟩ (And.intro ⟨_, rfl, (Box.ren_bytes _ _ _ _)⟩ trivial)))) (by exact (all_cons_true (all_cons_true rfl (all_cons_true rfl rfl)) (all_cons_true (all_cons_true rfl rfl) (all_cons_true bytes_inUse rfl)))) rfl rfl rfl rfl (by exact (.box rfl rfl (.box rfl rfl (.box rfl (Box.ren_bytes _ _ _ _) (.dead rfl .nil))))) .plain <| RunK.nil <| rgN <| kmv rfl <| kfa rfl rfl ?_; refine kl1 rfl rfl rfl <| K.callM [(1000002, 502), (1000003, 503)] (w1 1000000 1000001 503 (((l ++ [sgB false]) ++ leB 8 lo) ++ leB 8 hi) ++ [(502, none)]) (p3) rfl rfl (by exact (And.intro ⟨_, rfl, rfl⟩ (And.intro ⟨_, rfl, rfl⟩ (And.intro ⟨_, rfl, (Box.ren_bytes _ _ _ _)⟩ trivial)))) (by exact (all_cons_true (all_cons_true rfl (all_cons_true rfl rfl)) (all_cons_true (all_cons_true rfl rfl) (all_cons_true bytes_inUse rfl)))) rfl rfl rfl rfl (by exact (.box rfl rfl (.box rfl rfl (.box rfl (Box.ren_bytes _ _ _ _) (.dead rfl .nil))))) .plain <| RunK.nil ?_)
    exact ⟨[(1000003, 503)], ⟨[], trivial, rfl⟩, (by repeat' (first | exact trivial | refine And.intro ⟨_, rfl, ?_⟩ ?_ | refine And.intro ⟨_, rfl⟩ ?_ | rfl | exact Box.ren_bytes _ _ _ _ | exact Box.ren_vals _ _ _ _ | exact Box.ren_mid rfl)), rfl, rfl⟩
  | true =>
    have p1 : MSpec Tryz.prog X 76 [Lp 1000000, Ln .i64 1] (w1 1000000 1000001 1000002 l) (.tup []) (w1 1000000 1000001 1000003 (l ++ [sgB true]) ++ [(1000002, none)]) := p1 1 ⟨by decide, by decide⟩
    (refine LWP.seq <| rgN <| K.box rfl rfl rfl .plain <| RunK.nil <| LWP.seq <| rgN <| kas rfl <| RunK.nil <| LWP.seq <| LWP.seq <| rgN <| kfa rfl rfl ?_; refine kl1 rfl rfl rfl <| RunK.nil <| LWP.condT rfl ?_; refine rgN <| kas rfl <| RunK.nil <| LWP.seq <| rgN <| kmv rfl <| kmv rfl <| K.callM [(1000003, 501)] (w1 1000000 1000001 501 (l ++ [sgB true]) ++ [(1000002, none)]) (p1) rfl rfl (by exact (And.intro ⟨_, rfl, rfl⟩ (And.intro ⟨_, rfl, rfl⟩ (And.intro ⟨_, rfl, (Box.ren_bytes _ _ _ _)⟩ trivial)))) (by exact (all_cons_true (all_cons_true rfl (all_cons_true rfl rfl)) (all_cons_true (all_cons_true rfl rfl) (all_cons_true bytes_inUse rfl)))) rfl rfl rfl rfl (by exact (.box rfl rfl (.box rfl rfl (.box rfl (Box.ren_bytes _ _ _ _) (.dead rfl .nil))))) .plain <| RunK.nil <| LWP.seq <| rgN <| kmv rfl <| kfa rfl rfl ?_; refine kl1 rfl rfl rfl <| K.callM [(1000002, 501), (1000003, 502)] (w1 1000000 1000001 502 ((l ++ [sgB true]) ++ leB 8 lo) ++ [(501, none)]) (p2) rfl rfl (by exact (And.intro ⟨_, rfl, rfl⟩ (And.intro ⟨_, rfl, rfl⟩ (And.intro ⟨_, rfl, (Box.ren_bytes _ _ _ _)⟩ trivial)))) (by exact (all_cons_true (all_cons_true rfl (all_cons_true rfl rfl)) (all_cons_true (all_cons_true rfl rfl) (all_cons_true bytes_inUse rfl)))) rfl rfl rfl rfl (by exact (.box rfl rfl (.box rfl rfl (.box rfl (Box.ren_bytes _ _ _ _) (.dead rfl .nil))))) .plain <| RunK.nil <| rgN <| kmv rfl <| kfa rfl rfl ?_; refine kl1 rfl rfl rfl <| K.callM [(1000002, 502), (1000003, 503)] (w1 1000000 1000001 503 (((l ++ [sgB true]) ++ leB 8 lo) ++ leB 8 hi) ++ [(502, none)]) (p3) rfl rfl (by exact (And.intro ⟨_, rfl, rfl⟩ (And.intro ⟨_, rfl, rfl⟩ (And.intro ⟨_, rfl, (Box.ren_bytes _ _ _ _)⟩ trivial)))) (by exact (all_cons_true (all_cons_true rfl (all_cons_true rfl rfl)) (all_cons_true (all_cons_true rfl rfl) (all_cons_true bytes_inUse rfl)))) rfl rfl rfl rfl (by exact (.box rfl rfl (.box rfl rfl (.box rfl (Box.ren_bytes _ _ _ _) (.dead rfl .nil))))) .plain <| RunK.nil ?_)
    exact ⟨[(1000003, 503)], ⟨[], trivial, rfl⟩, (by repeat' (first | exact trivial | refine And.intro ⟨_, rfl, ?_⟩ ?_ | refine And.intro ⟨_, rfl⟩ ?_ | rfl | exact Box.ren_bytes _ _ _ _ | exact Box.ren_vals _ _ _ _ | exact Box.ren_mid rfl)), rfl, rfl⟩
set_option maxHeartbeats 3200000 in
theorem ePutIns (l : List UInt8) (x : Ins) (hx : smallI x) (hok : okI x = true) (hl : l.length < 700000000) : MSpec Tryz.prog X 78 [Lp 1000000, LOp x.op, LIn x] (w1 1000000 1000001 1000002 l) (.tup []) (w1 1000000 1000001 1000003 (l ++ encI x) ++ [(1000002, none)]) := by
  obtain ⟨h17, hgk, ha7, hb7⟩ := okI_facts hok
  have hk2 := hx.2.2.2
  obtain ⟨op, a, b, k⟩ := x
  simp only at h17 hgk ha7 hb7 hk2 ⊢
  have p1 := ePut_1 X l op (by omega) (by omega)
  have pa := ePut_1 X (l ++ [o8 op]) a (by omega) (by rw [List.length_append, List.length_singleton]; omega)
  have pb := ePut_1 X ((l ++ [o8 op]) ++ [o8 a]) b (by omega) (by rw [List.length_append, List.length_append, List.length_singleton, List.length_singleton]; omega)
  have pk := ePutNum X (l ++ [o8 op]) k hk2 (by rw [List.length_append, List.length_singleton]; omega)
  by_cases c1 : op = 1
  · subst c1
    rw [show encI ⟨1, a, b, k⟩ = o8 1 :: numX k from rfl, show l ++ o8 1 :: numX k = (l ++ [o8 1]) ++ numX k by simp, op_1]
    refine MSpec.intro Tryz.func78 rfl (by kernel_rfl) rfl rfl (by repeat' (first | refine all_cons_true ?_ ?_ | rfl | exact bytes_inUse | exact vals_inUse | exact mid_inUse rfl)) rfl rfl ?_
    intro C
    (refine LWP.seq <| rgN <| K.box rfl rfl rfl .plain <| K.box rfl rfl rfl .plain <| RunK.nil <| LWP.seq <| rgN <| kmv rfl <| kfa rfl rfl ?_; refine kl1 rfl rfl rfl <| K.callM [(1000003, 501)] (w1 1000000 1000001 501 (l ++ [o8 1]) ++ [(1000002, none)]) (p1) rfl rfl (by exact (And.intro ⟨_, rfl, rfl⟩ (And.intro ⟨_, rfl, rfl⟩ (And.intro ⟨_, rfl, (Box.ren_bytes _ _ _ _)⟩ trivial)))) (by exact (all_cons_true (all_cons_true rfl (all_cons_true rfl rfl)) (all_cons_true (all_cons_true rfl rfl) (all_cons_true bytes_inUse rfl)))) rfl rfl rfl rfl (by exact (.box rfl rfl (.box rfl rfl (.box rfl (Box.ren_bytes _ _ _ _) (.dead rfl .nil))))) .plain <| RunK.nil <| LWP.seq <| LWP.seq <| rgN <| kfa rfl rfl ?_; refine kl1 rfl rfl rfl <| RunK.nil <| LWP.condF rfl ?_; refine LWP.skip ?_; refine LWP.seq <| LWP.seq <| rgN <| kfa rfl rfl ?_; refine kl1 rfl rfl rfl <| RunK.nil <| LWP.condF rfl ?_; refine LWP.skip ?_; refine LWP.seq <| rgN <| kfa rfl rfl ?_; refine kl1 rfl rfl rfl <| RunK.nil <| LWP.condT rfl ?_; refine rgN <| kmv rfl <| kfa rfl rfl ?_; refine K.loadPart rfl rfl rfl (by exact nl3 rfl rfl rfl rfl) .plain ?_; refine K.callM [(1000002, 501), (1000003, 502)] (w1 1000000 1000001 502 ((l ++ [o8 1]) ++ numX k) ++ [(501, none)]) (pk) rfl rfl (by exact (And.intro ⟨_, rfl, rfl⟩ (And.intro ⟨_, rfl, rfl⟩ (And.intro ⟨_, rfl, (Box.ren_bytes _ _ _ _)⟩ trivial)))) (by exact (all_cons_true (all_cons_true rfl (all_cons_true rfl rfl)) (all_cons_true (all_cons_true rfl rfl) (all_cons_true bytes_inUse rfl)))) rfl rfl rfl rfl (by exact (.box rfl rfl (.box rfl rfl (.box rfl (Box.ren_bytes _ _ _ _) (.dead rfl .nil))))) .plain <| RunK.nil ?_)
    exact ⟨[(1000003, 502)], ⟨[], trivial, rfl⟩, (by repeat' (first | exact trivial | refine And.intro ⟨_, rfl, ?_⟩ ?_ | refine And.intro ⟨_, rfl⟩ ?_ | rfl | exact Box.ren_bytes _ _ _ _ | exact Box.ren_vals _ _ _ _ | exact Box.ren_mid rfl)), rfl, rfl⟩
  by_cases c2 : op = 2
  · subst c2
    rw [show encI ⟨2, a, b, k⟩ = [o8 2, o8 a, o8 b] from rfl, show l ++ [o8 2, o8 a, o8 b] = ((l ++ [o8 2]) ++ [o8 a]) ++ [o8 b] by simp, op_2]
    refine MSpec.intro Tryz.func78 rfl (by kernel_rfl) rfl rfl (by repeat' (first | refine all_cons_true ?_ ?_ | rfl | exact bytes_inUse | exact vals_inUse | exact mid_inUse rfl)) rfl rfl ?_
    intro C
    (refine LWP.seq <| rgN <| K.box rfl rfl rfl .plain <| K.box rfl rfl rfl .plain <| RunK.nil <| LWP.seq <| rgN <| kmv rfl <| kfa rfl rfl ?_; refine kl1 rfl rfl rfl <| K.callM [(1000003, 501)] (w1 1000000 1000001 501 (l ++ [o8 2]) ++ [(1000002, none)]) (p1) rfl rfl (by exact (And.intro ⟨_, rfl, rfl⟩ (And.intro ⟨_, rfl, rfl⟩ (And.intro ⟨_, rfl, (Box.ren_bytes _ _ _ _)⟩ trivial)))) (by exact (all_cons_true (all_cons_true rfl (all_cons_true rfl rfl)) (all_cons_true (all_cons_true rfl rfl) (all_cons_true bytes_inUse rfl)))) rfl rfl rfl rfl (by exact (.box rfl rfl (.box rfl rfl (.box rfl (Box.ren_bytes _ _ _ _) (.dead rfl .nil))))) .plain <| RunK.nil <| LWP.seq <| LWP.seq <| rgN <| kfa rfl rfl ?_; refine kl1 rfl rfl rfl <| RunK.nil <| LWP.condT rfl ?_; refine rgN <| kmv rfl <| kfa rfl rfl ?_; refine kl1 rfl rfl rfl <| K.callM [(1000002, 501), (1000003, 502)] (w1 1000000 1000001 502 ((l ++ [o8 2]) ++ [o8 a]) ++ [(501, none)]) (pa) rfl rfl (by exact (And.intro ⟨_, rfl, rfl⟩ (And.intro ⟨_, rfl, rfl⟩ (And.intro ⟨_, rfl, (Box.ren_bytes _ _ _ _)⟩ trivial)))) (by exact (all_cons_true (all_cons_true rfl (all_cons_true rfl rfl)) (all_cons_true (all_cons_true rfl rfl) (all_cons_true bytes_inUse rfl)))) rfl rfl rfl rfl (by exact (.box rfl rfl (.box rfl rfl (.box rfl (Box.ren_bytes _ _ _ _) (.dead rfl .nil))))) .plain <| RunK.nil <| LWP.seq <| LWP.seq <| rgN <| kfa rfl rfl ?_; refine kl1 rfl rfl rfl <| RunK.nil <| LWP.condT rfl ?_; refine rgN <| kmv rfl <| kfa rfl rfl ?_; refine kl1 rfl rfl rfl <| K.callM [(1000002, 502), (1000003, 503)] (w1 1000000 1000001 503 (((l ++ [o8 2]) ++ [o8 a]) ++ [o8 b]) ++ [(502, none)]) (pb) rfl rfl (by exact (And.intro ⟨_, rfl, rfl⟩ (And.intro ⟨_, rfl, rfl⟩ (And.intro ⟨_, rfl, (Box.ren_bytes _ _ _ _)⟩ trivial)))) (by exact (all_cons_true (all_cons_true rfl (all_cons_true rfl rfl)) (all_cons_true (all_cons_true rfl rfl) (all_cons_true bytes_inUse rfl)))) rfl rfl rfl rfl (by exact (.box rfl rfl (.box rfl rfl (.box rfl (Box.ren_bytes _ _ _ _) (.dead rfl .nil))))) .plain <| RunK.nil <| LWP.seq <| rgN <| kfa rfl rfl ?_; refine kl1 rfl rfl rfl <| RunK.nil <| LWP.condF rfl ?_; refine LWP.skip ?_)
    exact ⟨[(1000003, 503)], ⟨[], trivial, rfl⟩, (by repeat' (first | exact trivial | refine And.intro ⟨_, rfl, ?_⟩ ?_ | refine And.intro ⟨_, rfl⟩ ?_ | rfl | exact Box.ren_bytes _ _ _ _ | exact Box.ren_vals _ _ _ _ | exact Box.ren_mid rfl)), rfl, rfl⟩
  by_cases c3 : op = 3
  · subst c3
    rw [show encI ⟨3, a, b, k⟩ = [o8 3, o8 a] from rfl, show l ++ [o8 3, o8 a] = (l ++ [o8 3]) ++ [o8 a] by simp, op_3]
    refine MSpec.intro Tryz.func78 rfl (by kernel_rfl) rfl rfl (by repeat' (first | refine all_cons_true ?_ ?_ | rfl | exact bytes_inUse | exact vals_inUse | exact mid_inUse rfl)) rfl rfl ?_
    intro C
    (refine LWP.seq <| rgN <| K.box rfl rfl rfl .plain <| K.box rfl rfl rfl .plain <| RunK.nil <| LWP.seq <| rgN <| kmv rfl <| kfa rfl rfl ?_; refine kl1 rfl rfl rfl <| K.callM [(1000003, 501)] (w1 1000000 1000001 501 (l ++ [o8 3]) ++ [(1000002, none)]) (p1) rfl rfl (by exact (And.intro ⟨_, rfl, rfl⟩ (And.intro ⟨_, rfl, rfl⟩ (And.intro ⟨_, rfl, (Box.ren_bytes _ _ _ _)⟩ trivial)))) (by exact (all_cons_true (all_cons_true rfl (all_cons_true rfl rfl)) (all_cons_true (all_cons_true rfl rfl) (all_cons_true bytes_inUse rfl)))) rfl rfl rfl rfl (by exact (.box rfl rfl (.box rfl rfl (.box rfl (Box.ren_bytes _ _ _ _) (.dead rfl .nil))))) .plain <| RunK.nil <| LWP.seq <| LWP.seq <| rgN <| kfa rfl rfl ?_; refine kl1 rfl rfl rfl <| RunK.nil <| LWP.condT rfl ?_; refine rgN <| kmv rfl <| kfa rfl rfl ?_; refine kl1 rfl rfl rfl <| K.callM [(1000002, 501), (1000003, 502)] (w1 1000000 1000001 502 ((l ++ [o8 3]) ++ [o8 a]) ++ [(501, none)]) (pa) rfl rfl (by exact (And.intro ⟨_, rfl, rfl⟩ (And.intro ⟨_, rfl, rfl⟩ (And.intro ⟨_, rfl, (Box.ren_bytes _ _ _ _)⟩ trivial)))) (by exact (all_cons_true (all_cons_true rfl (all_cons_true rfl rfl)) (all_cons_true (all_cons_true rfl rfl) (all_cons_true bytes_inUse rfl)))) rfl rfl rfl rfl (by exact (.box rfl rfl (.box rfl rfl (.box rfl (Box.ren_bytes _ _ _ _) (.dead rfl .nil))))) .plain <| RunK.nil <| LWP.seq <| LWP.seq <| rgN <| kfa rfl rfl ?_; refine kl1 rfl rfl rfl <| RunK.nil <| LWP.condF rfl ?_; refine LWP.skip ?_; refine LWP.seq <| rgN <| kfa rfl rfl ?_; refine kl1 rfl rfl rfl <| RunK.nil <| LWP.condF rfl ?_; refine LWP.skip ?_)
    exact ⟨[(1000003, 502)], ⟨[], trivial, rfl⟩, (by repeat' (first | exact trivial | refine And.intro ⟨_, rfl, ?_⟩ ?_ | refine And.intro ⟨_, rfl⟩ ?_ | rfl | exact Box.ren_bytes _ _ _ _ | exact Box.ren_vals _ _ _ _ | exact Box.ren_mid rfl)), rfl, rfl⟩
  rw [show encI ⟨op, a, b, k⟩ = [o8 op] by unfold encI; simp only; rw [if_neg c1, if_neg c2, if_neg c3], op_no c1 c2 c3]
  refine MSpec.intro Tryz.func78 rfl (by kernel_rfl) rfl rfl (by repeat' (first | refine all_cons_true ?_ ?_ | rfl | exact bytes_inUse | exact vals_inUse | exact mid_inUse rfl)) rfl rfl ?_
  intro C
  (refine LWP.seq <| rgN <| K.box rfl rfl rfl .plain <| K.box rfl rfl rfl .plain <| RunK.nil <| LWP.seq <| rgN <| kmv rfl <| kfa rfl rfl ?_; refine kl1 rfl rfl rfl <| K.callM [(1000003, 501)] (w1 1000000 1000001 501 (l ++ [o8 op]) ++ [(1000002, none)]) (p1) rfl rfl (by exact (And.intro ⟨_, rfl, rfl⟩ (And.intro ⟨_, rfl, rfl⟩ (And.intro ⟨_, rfl, (Box.ren_bytes _ _ _ _)⟩ trivial)))) (by exact (all_cons_true (all_cons_true rfl (all_cons_true rfl rfl)) (all_cons_true (all_cons_true rfl rfl) (all_cons_true bytes_inUse rfl)))) rfl rfl rfl rfl (by exact (.box rfl rfl (.box rfl rfl (.box rfl (Box.ren_bytes _ _ _ _) (.dead rfl .nil))))) .plain <| RunK.nil <| LWP.seq <| LWP.seq <| rgN <| kfa rfl rfl ?_; refine kl1 rfl rfl rfl <| RunK.nil <| LWP.condF rfl ?_; refine LWP.skip ?_; refine LWP.seq <| LWP.seq <| rgN <| kfa rfl rfl ?_; refine kl1 rfl rfl rfl <| RunK.nil <| LWP.condF rfl ?_; refine LWP.skip ?_; refine LWP.seq <| rgN <| kfa rfl rfl ?_; refine kl1 rfl rfl rfl <| RunK.nil <| LWP.condF rfl ?_; refine LWP.skip ?_)
  exact ⟨[(1000003, 501)], ⟨[], trivial, rfl⟩, (by repeat' (first | exact trivial | refine And.intro ⟨_, rfl, ?_⟩ ?_ | refine And.intro ⟨_, rfl⟩ ?_ | rfl | exact Box.ren_bytes _ _ _ _ | exact Box.ren_vals _ _ _ _ | exact Box.ren_mid rfl)), rfl, rfl⟩
abbrev enSt (rad ad : Option Addr) (n rcap cap i : Nat) (B : List UInt8) (Y : Nat → Option Obj) : St :=
  ⟨[(0, Lx ad n cap), (6, Lp 18), (23, Lx rad n rcap), (24, Ln .i64 (n : Nat)), (25, Ln .i64 (i : Nat))], w1 18 601 500 B, Y⟩
set_option maxHeartbeats 6400000 in
theorem gEncode' (l : List Ins) (ad : Option Addr) (cap : Nat) (hin : InsIn X ad l) (hbig : l.length < 1152921504606846976) : PSpec Tryz.prog X 54 [Lx ad l.length cap] (.tup [Ss (encTX l), Sn .i64 (encErr l)]) := by
  have hR := tRowsOf X l ad cap hin hbig
  refine PSpec.intro Tryz.func54 rfl (by kernel_rfl) rfl rfl ?_
  intro C
  by_cases h : chkX l = 0
  · rw [(rs_ok h).1, (rs_ok h).2] at hR
    have h64 := (chkX_zero h).1
    have hall := chkX_ok h
    (refine LWP.seq <| rgN <| kas rfl <| kas rfl <| RunK.nil <| LWP.seq <| rgN <| kmv rfl <| K.callMp [(1000001, 500)] (.tup [.one (.slc 500 0 l.length 6), Sn .i64 0]) [(500, some ⟨0, [], .res (rowsR l)⟩)] (hR) rfl rfl (by exact trivial) rfl rfl rfl rfl rfl (by exact (.box rfl rfl .nil)) .plain <| kmv rfl <| kex rfl rfl <| kex rfl rfl <| kas rfl <| kas rfl ?_; refine RunK.nil <| LWP.seq <| LWP.seq <| rgN <| kmv rfl <| kne rfl rfl ((bne_eq_false_iff_eq.2 (by omega))) <| RunK.nil <| LWP.condF rfl ?_; refine LWP.skip ?_; refine LWP.seq ?_)
    refine LWP.le (σ' := ⟨[(4, .sv (.one (.slc 500 0 l.length 6))), (0, Lx ad l.length cap)], [(500, some ⟨0, [], .res (rowsR l)⟩)], X⟩) (Le.of (by exact ⟨rfl, rfl, trivial⟩) (by exact ⟨rfl, trivial⟩) (by exact rfl) (by exact rfl) (by repeat' (first | refine all_cons_true ?_ ?_ | rfl | exact bytes_inUse | exact vals_inUse | exact mid_inUse rfl))) ?_
    refine LWP.fixRes rfl rfl rfl fun ρ H rcap hRr hO _ _ => ?_
    obtain ⟨m1, m2⟩ := more_join hO
    have hrows := rows_fix hRr m2
    replace hin := hin.mono m1
    generalize joinM X H = Y at *
    have p1 := ePut_0 Y l.length (by omega)
    (refine rgN <| K.build rfl rfl (by exact rfl) (by exact nl2 rfl rfl rfl) .plain ?_; refine K.box rfl rfl rfl .plain <| kas rfl <| RunK.nil <| LWP.seq <| rgN <| kmv rfl <| kmv rfl <| K.lenX rfl SliceT.h rfl .plain ?_; refine K.callM [(1000000, 18), (1000001, 601), (1000002, 602)] (w1 18 601 602 [o8 (l.length : Nat)]) (p1) rfl rfl (by exact (And.intro ⟨_, rfl, rfl⟩ trivial)) (by exact (all_cons_true (all_cons_true rfl (all_cons_true rfl rfl)) rfl)) rfl rfl rfl rfl (by exact (.box rfl rfl (.box rfl rfl (.box rfl rfl .nil)))) .plain <| RunK.nil <| LWP.seq <| LWP.seq <| rgN <| kmv rfl <| K.lenX rfl SliceT.h rfl .plain ?_; refine kmv rfl <| RunK.nil <| LWP.block ?_)
    refine LWP.loop (fun m σ => ∃ i : Nat, i ≤ l.length ∧ m = l.length - i ∧ (∀ x ∈ l.take i, plainI x = true) ∧ σ = enSt (some ⟨ρ.1, 0, none⟩) ad l.length rcap cap i (o8 (l.length : Nat) :: encIs (l.take i)) Y) l.length
      ⟨enSt (some ⟨ρ.1, 0, none⟩) ad l.length rcap cap 0 (o8 (l.length : Nat) :: encIs (l.take 0)) Y, Le.ofR [(500, 602)] (by exact ⟨rfl, rfl, rfl, rfl, rfl, trivial⟩) (by repeat' (first | exact trivial | refine And.intro ⟨_, rfl, ?_⟩ ?_ | refine And.intro ⟨_, rfl⟩ ?_ | rfl | exact Box.ren_bytes _ _ _ _ | exact Box.ren_vals _ _ _ _ | exact Box.ren_mid rfl)) (by exact rfl) (by exact rfl) (by repeat' (first | refine all_cons_true ?_ ?_ | rfl | exact bytes_inUse | exact vals_inUse | exact mid_inUse rfl)) (by exact rfl) (by exact rfl), 0, Nat.zero_le _, rfl, fun x hx => absurd hx (by simp), rfl⟩ ?_
    rintro m σ ⟨i, hi, rfl, hpl, rfl⟩
    have hBl := encIs_len (l.take i)
    rw [List.length_take] at hBl
    by_cases hlt : i < l.length
    · obtain ⟨x, hx⟩ : ∃ x, l[i]? = some x := ⟨_, List.getElem?_eq_getElem hlt⟩
      have hmem := List.mem_of_getElem? hx
      have hsx := hin.small x hmem
      have hok := hall x hmem
      obtain ⟨rblk, roff, rarr, rel, rfr, dv, hrad, hXr, hszr, hcsr, hDv⟩ := hrows.at hx
      simp only [Option.some.injEq, Addr.mk.injEq] at hrad
      obtain ⟨rfl, rfl, _⟩ := hrad
      obtain ⟨g, gcaps, egv, _⟩ := id hDv
      subst egv
      obtain ⟨blk, off, arr, el, fr, rfl, hX, hsz, hcs, hop⟩ := hin.at hx
      have hio : off + Int.toNat (i : Int) * 6 = off + i * 6 := by simp
      have hior : 0 + Int.toNat (i : Int) * 6 = 0 + i * 6 := by simp
      have hin0 : 0 ≤ (i : Int) ∧ (i : Int) < (l.length : Nat) := by omega
      have hO := tOnly Y x hsx
      cases hp : plainI x with
      | false =>
        have he : encErr l = 1 := by
          unfold encErr
          rw [if_pos h, if_neg]
          intro ha
          have := List.all_eq_true.1 ha x hmem
          rw [hp] at this
          cases this
        rw [show encTX l = [] by unfold encTX; rw [he]; rfl, he]
        rw [hp] at hO
        (refine LWP.seq <| rgN <| klt rfl rfl (decide_eq_true (by omega)) <| RunK.nil <| LWP.seq <| LWP.condT rfl ?_; refine LWP.skip ?_; refine LWP.seq <| LWP.block <| LWP.seq <| rgN <| kmv rfl <| K.indexX rfl rfl SliceT.h hin0 hior .plain <| K.loadXagg rfl hXr (by kernel_rfl) hszr hcsr .plain <| K.alloc rfl .plain ?_; refine kas rfl <| K.storeAll rfl rfl rfl rfl rfl rfl .plain ?_; refine RunK.nil <| LWP.seq <| LWP.seq <| rgD mixed <| kfa rfl rfl ?_; refine K.loadPart rfl rfl rfl rfl .plain ?_; refine kmv rfl <| kmv rfl <| K.indexX rfl rfl SliceT.h hin0 hio .plain <| K.loadXagg rfl hX (by kernel_rfl) hsz hcs .plain <| kca rfl rfl hO <| K.not rfl rfl .plain <| RunK.nil <| rgA ?_; refine LWP.condT rfl ?_; refine LWP.seq <| rgN <| kas rfl <| kas rfl <| RunK.nil <| LWP.ret ?_)
        exact ⟨[_, _], ⟨rfl, rfl, trivial⟩, rfl⟩
      | true =>
        rw [hp] at hO
        have hnext : o8 (l.length : Nat) :: encIs (l.take (i + 1)) = (o8 (l.length : Nat) :: encIs (l.take i)) ++ encI x := by
          rw [List.take_add_one, hx, encIs_app]
          simp [encIs]
        have q := ePutIns Y (o8 (l.length : Nat) :: encIs (l.take i)) x hsx hok (by rw [List.length_cons]; omega)
        rw [← hnext] at q
        have hinc : IntKind.i64.wrap (((i : Nat) : Int) + 1) = ((i + 1 : Nat) : Int) := by rw [wrap_i64 (by omega)]; omega
        (refine LWP.seq <| rgN <| klt rfl rfl (decide_eq_true (by omega)) <| RunK.nil <| LWP.seq <| LWP.condT rfl ?_; refine LWP.skip ?_; refine LWP.seq <| LWP.block <| LWP.seq <| rgN <| kmv rfl <| K.indexX rfl rfl SliceT.h hin0 hior .plain <| K.loadXagg rfl hXr (by kernel_rfl) hszr hcsr .plain <| K.alloc rfl .plain ?_; refine kas rfl <| K.storeAll rfl rfl rfl rfl rfl rfl .plain ?_; refine RunK.nil <| LWP.seq <| LWP.seq <| rgD mixed <| kfa rfl rfl ?_; refine K.loadPart rfl rfl rfl rfl .plain ?_; refine kmv rfl <| kmv rfl <| K.indexX rfl rfl SliceT.h hin0 hio .plain <| K.loadXagg rfl hX (by kernel_rfl) hsz hcs .plain <| kca rfl rfl hO <| K.not rfl rfl .plain <| RunK.nil <| rgA ?_; refine LWP.condF rfl ?_; refine LWP.skip ?_; refine rgD mixed <| kmv rfl <| kfa rfl rfl ?_; refine K.loadPart rfl rfl rfl rfl .plain ?_; refine kmv rfl <| kmv rfl <| K.indexX rfl rfl SliceT.h hin0 hio .plain <| K.loadXagg rfl hX (by kernel_rfl) hsz hcs .plain <| K.callM [(1000000, 18), (1000001, 601), (1000002, 500), (1000003, 605)] (w1 18 601 605 (o8 (l.length : Nat) :: encIs (l.take (i + 1))) ++ [(500, none)]) (q) rfl rfl (by exact (And.intro ⟨_, rfl, rfl⟩ (And.intro ⟨_, rfl, rfl⟩ (And.intro ⟨_, rfl, (Box.ren_bytes _ _ _ _)⟩ trivial)))) (by exact (all_cons_true (all_cons_true rfl (all_cons_true rfl rfl)) (all_cons_true (all_cons_true rfl rfl) (all_cons_true (all_cons_true rfl bytes_inUse) rfl)))) rfl rfl rfl rfl (by exact (.box rfl rfl (.box rfl rfl (.box rfl (Box.ren_bytes _ _ _ _) (.dead rfl .nil))))) .plain <| RunK.nil <| rgA ?_; refine rgN <| kad rfl rfl hinc <| kmv rfl <| RunK.nil ?_)
        exact ⟨_, enSt (some ⟨ρ.1, 0, none⟩) (some ⟨blk, off, none⟩) l.length rcap cap (i + 1) (o8 (l.length : Nat) :: encIs (l.take (i + 1))) Y, by omega, Le.ofR [(500, 605)] (by exact ⟨rfl, rfl, rfl, rfl, rfl, trivial⟩) (by repeat' (first | exact trivial | refine And.intro ⟨_, rfl, ?_⟩ ?_ | refine And.intro ⟨_, rfl⟩ ?_ | rfl | exact Box.ren_bytes _ _ _ _ | exact Box.ren_vals _ _ _ _ | exact Box.ren_mid rfl)) (by exact rfl) (by exact rfl) (by repeat' (first | refine all_cons_true ?_ ?_ | rfl | exact bytes_inUse | exact vals_inUse | exact mid_inUse rfl)) (by exact rfl) (by exact rfl), i + 1, by omega, rfl, (fun y hy => by
          rw [List.take_add_one, hx] at hy
          rcases List.mem_append.1 hy with hy | hy
          · exact hpl y hy
          · simp only [Option.toList_some, List.mem_singleton] at hy; rw [hy]; exact hp), rfl⟩
    · have e : i = l.length := by omega
      subst e
      rw [List.take_length] at hpl
      have he : encErr l = 0 := by
        unfold encErr
        rw [if_pos h, if_pos (List.all_eq_true.2 hpl)]
      rw [show encTX l = o8 (l.length : Nat) :: encIs l by unfold encTX; rw [if_pos he]; rfl, he, List.take_length]
      have q := String_1 Y (o8 (l.length : Nat) :: encIs l)
      (refine LWP.seq <| rgN <| klt rfl rfl (decide_eq_false (by omega)) <| RunK.nil <| LWP.seq <| LWP.condF rfl ?_; refine LWP.exit <| LWP.seq <| rgN <| kmv rfl <| K.callM [(1000000, 18), (1000001, 601), (1000002, 500)] (w1 18 601 500 (o8 (l.length : Nat) :: encIs l)) (q) rfl rfl (by exact (And.intro ⟨_, rfl, rfl⟩ (And.intro ⟨_, rfl, rfl⟩ (And.intro ⟨_, rfl, (Box.ren_bytes _ _ _ _)⟩ trivial)))) (by exact (all_cons_true (all_cons_true rfl (all_cons_true rfl rfl)) (all_cons_true (all_cons_true rfl rfl) (all_cons_true (all_cons_true rfl bytes_inUse) rfl)))) rfl rfl rfl rfl (by exact (.box rfl rfl (.box rfl rfl (.box rfl (Box.ren_bytes _ _ _ _) .nil)))) .plain <| kas rfl <| kas rfl <| RunK.nil <| LWP.ret ?_)
      exact ⟨[_, _], ⟨rfl, rfl, trivial⟩, rfl⟩
  · rw [(rs_no h).1, (rs_no h).2] at hR
    have he : encErr l = chkX l := if_neg h
    rw [show encTX l = [] by unfold encTX; rw [he, if_neg h], he]
    (refine LWP.seq <| rgN <| kas rfl <| kas rfl <| RunK.nil <| LWP.seq <| rgN <| kmv rfl <| K.callM [] [] (hR) rfl rfl (by exact trivial) rfl rfl rfl rfl rfl (by exact .nil) .plain <| kmv rfl <| kex rfl rfl <| kex rfl rfl <| kas rfl <| kas rfl ?_; refine RunK.nil <| LWP.seq <| LWP.seq <| rgN <| kmv rfl <| kne rfl rfl (r := true) (bne_iff_ne.2 h) <| RunK.nil <| LWP.condT rfl ?_; refine LWP.seq <| rgN <| kmv rfl <| kas rfl <| kas rfl <| RunK.nil <| LWP.ret ?_)
    exact ⟨[_, _], ⟨rfl, rfl, trivial⟩, rfl⟩
end Go.Proofs.YtamplgnbbanamaaGreatDoor
end
section
namespace Go.Lg
open Go Go.RowKit
section
variable {P : Program} {n : Nat} {ops os : List Oper} {acc : List Eff} {K : List Eff → St → Prop} {s : List (Nat × LV)} {bx : List (Nat × Option Box)} {X : Nat → Option Obj} {σ : St}
theorem LOK.fieldAgg {d s i m : Nat} {x : Operand} {ty : TypeId} {pos : String} {after : Array Edge} {g : Option (Nat × Bool)} {l l' : List CV} {fs : Array Field} {f : Field} (hx : σ.ev x = some (.sv (.agg l)))
    (hu : P.underlying s = some (.struct fs)) (hf : fs[i]? = some f) (hag : aggSize P f.type = some m) (hc : (l.drop f.offset).take m = l') :
    LOK P n ops ⟨some d, .field s x i, ty, pos, after, g⟩ σ ⟨[(d, .sv (.agg l'))], [], []⟩ :=
  LOK.value fun σ' ha C ι a w hr => by
    subst hc
    obtain ⟨arr, h1, hrel⟩ := hr.ev ((ha.ev (x := x) (by simp [Op.operands])).trans hx)
    obtain ⟨h2, h3⟩ := isAgg_of hag w
    have e : (arr.extract f.offset (f.offset + m)).toList = (arr.toList.drop f.offset).take m := by simp [List.extract]
    refine ⟨.agg (arr.extract f.offset (f.offset + m)), by simp [execOp, h1, Instr.field, run_underlying hu, hf, asAgg, part, h2, h3], _, rfl, ?_⟩
    rw [e]
    exact CVs.rel_take (CVs.rel_drop hrel _) _
theorem K.fieldAgg {s0 : List (Nat × LV)} {d s i m : Nat} {x : Operand} {ty : TypeId} {pos : String} {after : Array Edge} {g : Option (Nat × Bool)} {l l' : List CV} {fs : Array Field} {f : Field} (hx : (⟨s0, bx, X⟩ : St).ev x = some (.sv (.agg l)))
    (hu : P.underlying s = some (.struct fs)) (hf : fs[i]? = some f) (hag : aggSize P f.type = some m) (hc : (l.drop f.offset).take m = l') (hw : Want ops s0 g) (kont : RunK P n ops os ⟨(d, .sv (.agg l')) :: s0, bx, X⟩ (⟨[(d, .sv (.agg l'))], [], []⟩ :: acc) K) :
    RunK P n ops (⟨some d, .field s x i, ty, pos, after, g⟩ :: os) ⟨s0, bx, X⟩ acc K := RunK.g1 (LOK.fieldAgg hx hu hf hag hc) hw kont
end
end Go.Lg
end
section
namespace Go.Proofs.YtamplgnbbanamaaGreatDoor
open Go Go.Lg Go.Lg.Fml Go.Lg.Fld Go.Lg.Arith
set_option maxRecDepth 100000
def eS : List UInt8 × Bool → UInt8 × List UInt8 × Bool
  | (c :: t, false) => (c, t, false)
  | (l, _) => (0, l, true)
def eW : List UInt8 × Bool → Nat × List UInt8 × Bool
  | (l, b) => if b = false ∧ 8 ≤ l.length then (le (l.take 8), l.drop 8, false) else (0, l, true)
def eN (x : List UInt8 × Bool) : (Nm × Bool) × List UInt8 × Bool :=
  if 1 < (eS x).1.toNat then (((false, 0), false), (eS x).2)
  else (((decide ((eS x).1.toNat = 1), (((eW (eS x).2).1 + 18446744073709551616 * (eW (eW (eS x).2).2).1 : Nat) : Int)), true), (eW (eW (eS x).2).2).2)
def eI (x : List UInt8 × Bool) : (Ins × Bool) × List UInt8 × Bool :=
  if (eS x).1.toNat = 1 then ((⟨1, 0, 0, (eN (eS x).2).1.1⟩, (eN (eS x).2).1.2), (eN (eS x).2).2)
  else if (eS x).1.toNat = 2 then ((⟨2, ((eS (eS x).2).1.toNat : Nat), ((eS (eS (eS x).2).2).1.toNat : Nat), (false, 0)⟩, true), (eS (eS (eS x).2).2).2)
  else if (eS x).1.toNat = 3 then ((⟨3, ((eS (eS x).2).1.toNat : Nat), 0, (false, 0)⟩, true), (eS (eS x).2).2)
  else ((⟨((eS x).1.toNat : Nat), 0, 0, (false, 0)⟩, true), (eS x).2)
def eIs (x : List UInt8 × Bool) : Nat → Option (List Ins × List UInt8 × Bool)
  | 0 => some ([], x)
  | n + 1 => match eIs x n with
    | none => none
    | some (q, y) => if (eI y).1.2 = true then some (q ++ [(eI y).1.1], (eI y).2) else none
def Lss (x y : List UInt8 × Bool) : Prop := y.1.length ≤ x.1.length ∧ (x.2 = true → y.2 = true)
theorem Lss.trans {x y z : List UInt8 × Bool} (h : Lss x y) (h' : Lss y z) : Lss x z := ⟨Nat.le_trans h'.1 h.1, fun e => h'.2 (h.2 e)⟩
theorem eS_less (x : List UInt8 × Bool) : Lss x (eS x).2 := by
  obtain ⟨l, b⟩ := x
  cases b <;> cases l <;> simp [eS, Lss]
theorem eW_less (x : List UInt8 × Bool) : Lss x (eW x).2 := by
  obtain ⟨l, b⟩ := x
  unfold eW
  simp only
  by_cases h : b = false ∧ 8 ≤ l.length
  · rw [if_pos h]; exact ⟨by simp only [List.length_drop]; omega, fun e => (by rw [h.1] at e; cases e)⟩
  · rw [if_neg h]; exact ⟨Nat.le_refl _, fun _ => rfl⟩
theorem eW_lt (x : List UInt8 × Bool) : (eW x).1 < 18446744073709551616 := by
  obtain ⟨l, b⟩ := x
  unfold eW
  simp only
  split
  · have := le_lt (l.take 8)
    have hp : (256 : Nat) ^ 8 = 18446744073709551616 := by decide
    have h8 : (l.take 8).length = 8 := by rw [List.length_take]; omega
    rw [h8] at this
    simp only
    omega
  · show 0 < 18446744073709551616
    omega
theorem eN_less (x : List UInt8 × Bool) : Lss x (eN x).2 := by
  unfold eN
  split
  · exact eS_less x
  · exact ((eS_less x).trans (eW_less _)).trans (eW_less _)
theorem eN_in2 (x : List UInt8 × Bool) : In2 (eN x).1.1.2 := by
  unfold eN In2
  split
  · show 0 ≤ (0 : Int) ∧ (0 : Int) < 340282366920938463463374607431768211456
    omega
  · have := eW_lt (eS x).2
    have := eW_lt (eW (eS x).2).2
    simp only
    omega
theorem eI_less (x : List UInt8 × Bool) : Lss x (eI x).2 := by
  unfold eI
  split
  · exact (eS_less x).trans (eN_less _)
  · split
    · exact ((eS_less x).trans (eS_less _)).trans (eS_less _)
    · split
      · exact (eS_less x).trans (eS_less _)
      · exact eS_less x
theorem eI_small (x : List UInt8 × Bool) : smallI (eI x).1.1 := by
  have h1 := (eS x).1.toNat_lt
  have h2 := (eS (eS x).2).1.toNat_lt
  have h3 := (eS (eS (eS x).2).2).1.toNat_lt
  have h4 := eN_in2 (eS x).2
  have h5 : In2 (0 : Int) := ⟨by decide, by decide⟩
  unfold eI smallI
  split
  · exact ⟨by simp only; omega, by simp only; omega, by simp only; omega, h4⟩
  · split
    · exact ⟨by simp only; omega, by simp only; omega, by simp only; omega, h5⟩
    · split
      · exact ⟨by simp only; omega, by simp only; omega, by simp only; omega, h5⟩
      · exact ⟨by simp only; omega, by simp only; omega, by simp only; omega, h5⟩
theorem eIs_len {x : List UInt8 × Bool} : ∀ {n : Nat} {q : List Ins} {y : List UInt8 × Bool}, eIs x n = some (q, y) → q.length = n ∧ Lss x y ∧ ∀ z ∈ q, smallI z
  | 0, q, y, h => by
    simp only [eIs, Option.some.injEq, Prod.mk.injEq] at h
    obtain ⟨rfl, rfl⟩ := h
    exact ⟨rfl, ⟨Nat.le_refl _, id⟩, fun z hz => absurd hz (by simp)⟩
  | n + 1, q, y, h => by
    simp only [eIs] at h
    cases hp : eIs x n with
    | none => rw [hp] at h; cases h
    | some p =>
      obtain ⟨q0, y0⟩ := p
      rw [hp] at h
      simp only at h
      split at h
      · simp only [Option.some.injEq, Prod.mk.injEq] at h
        obtain ⟨rfl, rfl⟩ := h
        obtain ⟨h1, h2, h3⟩ := eIs_len hp
        refine ⟨by rw [List.length_append, h1]; rfl, h2.trans (eI_less y0), fun z hz => ?_⟩
        rcases List.mem_append.1 hz with hz | hz
        · exact h3 z hz
        · rw [List.mem_singleton] at hz; subst hz; exact eI_small y0
      · cases h
theorem eIs_none {x : List UInt8 × Bool} {i : Nat} (h : eIs x i = none) : ∀ k, eIs x (i + k) = none
  | 0 => h
  | k + 1 => by rw [← Nat.add_assoc]; simp only [eIs]; rw [eIs_none h k]
theorem eIs_front (x : List UInt8 × Bool) : ∀ n, eIs x (n + 1) = if (eI x).1.2 = true then (eIs (eI x).2 n).map (fun p => ((eI x).1.1 :: p.1, p.2)) else none
  | 0 => by simp only [eIs]; split <;> rfl
  | n + 1 => by
    show (match eIs x (n + 1) with | none => none | some (q, y) => if (eI y).1.2 = true then some (q ++ [(eI y).1.1], (eI y).2) else none) = _
    rw [eIs_front x n]
    by_cases c : (eI x).1.2 = true
    · rw [if_pos c, if_pos c]
      simp only [eIs]
      cases eIs (eI x).2 n with
      | none => rfl
      | some p =>
        obtain ⟨q, y⟩ := p
        simp only [Option.map_some]
        by_cases d : (eI y).1.2 = true
        · rw [if_pos d, if_pos d]; rfl
        · rw [if_neg d, if_neg d]; rfl
    · rw [if_neg c, if_neg c]
theorem eW_get (r : List UInt8) : (8 ≤ r.length → eW (r, false) = (le (r.take 8), r.drop 8, false)) ∧ (¬ 8 ≤ r.length → (eW (r, false)).2.2 = true) := ⟨fun h => if_pos ⟨rfl, h⟩, fun h => by unfold eW; simp only; rw [if_neg (fun c => h c.2)]⟩
theorem eI_get (l : List UInt8) : (∃ x r, getI l = some (x, r) ∧ eI (l, false) = ((x, true), r, false)) ∨ (getI l = none ∧ ((eI (l, false)).1.2 = false ∨ (eI (l, false)).2.2 = true)) := by
  cases l with
  | nil => exact .inr ⟨rfl, .inr rfl⟩
  | cons o r =>
    unfold getI eI
    rw [show eS (o :: r, false) = (o, r, false) from rfl]
    simp only
    by_cases e1 : o.toNat = 1
    · rw [if_pos e1, if_pos e1]
      cases r with
      | nil => exact .inr ⟨rfl, .inr (by unfold eN; rw [show eS ([], false) = (0, [], true) from rfl]; rfl)⟩
      | cons s r =>
        unfold eN
        rw [show eS (s :: r, false) = (s, r, false) from rfl]
        simp only
        by_cases hs : 1 < s.toNat
        · rw [if_pos hs, if_neg (by omega)]
          exact .inr ⟨rfl, .inl rfl⟩
        · rw [if_neg hs]
          by_cases h16 : 16 ≤ r.length
          · rw [if_pos ⟨by omega, h16⟩]
            rw [(eW_get r).1 (by omega)]
            simp only
            rw [(eW_get (r.drop 8)).1 (by rw [List.length_drop]; omega)]
            refine .inl ⟨_, _, rfl, ?_⟩
            rw [List.drop_drop]
          · rw [if_neg (fun h => h16 h.2)]
            refine .inr ⟨rfl, .inr ?_⟩
            simp only
            by_cases h8 : 8 ≤ r.length
            · rw [(eW_get r).1 h8]
              exact (eW_get (r.drop 8)).2 (by rw [List.length_drop]; omega)
            · exact (eW_less _).2 ((eW_get r).2 h8)
    · rw [if_neg e1, if_neg e1]
      by_cases e2 : o.toNat = 2
      · rw [if_pos e2, if_pos e2]
        match r with
        | [] => exact .inr ⟨rfl, .inr rfl⟩
        | [a] => exact .inr ⟨rfl, .inr rfl⟩
        | a :: b :: r => exact .inl ⟨_, _, rfl, rfl⟩
      · rw [if_neg e2, if_neg e2]
        by_cases e3 : o.toNat = 3
        · rw [if_pos e3, if_pos e3]
          match r with
          | [] => exact .inr ⟨rfl, .inr rfl⟩
          | a :: r => exact .inl ⟨_, _, rfl, rfl⟩
        · rw [if_neg e3, if_neg e3]
          exact .inl ⟨_, _, rfl, rfl⟩
theorem eIs_bad {x : List UInt8 × Bool} (hb : x.2 = true) {n : Nat} {q : List Ins} {y : List UInt8 × Bool} (h : eIs x n = some (q, y)) : y.2 = true := (eIs_len h).2.1.2 hb
theorem eIs_get : ∀ (n : Nat) (l : List UInt8), (∃ q r, getIs n l = some (q, r) ∧ eIs (l, false) n = some (q, r, false)) ∨ (getIs n l = none ∧ (eIs (l, false) n = none ∨ ∃ q y, eIs (l, false) n = some (q, y) ∧ y.2 = true))
  | 0, l => .inl ⟨[], l, rfl, rfl⟩
  | n + 1, l => by
    rw [eIs_front]
    simp only [getIs]
    rcases eI_get l with ⟨x, r, h1, h2⟩ | ⟨h1, h2⟩
    · rw [h1, h2, if_pos rfl]
      simp only
      rcases eIs_get n r with ⟨q, r2, h3, h4⟩ | ⟨h3, h4⟩
      · rw [h3, h4]
        exact .inl ⟨_, _, rfl, rfl⟩
      · rw [h3]
        rcases h4 with h4 | ⟨q, y, h4, h5⟩
        · rw [h4]; exact .inr ⟨rfl, .inl rfl⟩
        · rw [h4]; exact .inr ⟨rfl, .inr ⟨_, _, rfl, h5⟩⟩
    · rw [h1]
      refine .inr ⟨rfl, ?_⟩
      rcases h2 with h2 | h2
      · rw [if_neg (by rw [h2]; decide)]; exact .inl rfl
      · by_cases c : (eI (l, false)).1.2 = true
        · rw [if_pos c]
          cases hp : eIs (eI (l, false)).2 n with
          | none => exact .inl rfl
          | some p =>
            obtain ⟨q, y⟩ := p
            exact .inr ⟨_, _, rfl, eIs_bad h2 hp⟩
        · rw [if_neg c]; exact .inl rfl
theorem decX_e (s : List UInt8) : decX s = match eIs (eS (s, false)).2 (eS (s, false)).1.toNat with
    | none => none
    | some (q, y) => if (!y.2 && (y.1 == [])) = true ∧ chkX q = 0 then some q else none := by
  cases s with
  | nil => rfl
  | cons n r =>
    rw [show eS (n :: r, false) = (n, r, false) from rfl]
    simp only [decX]
    rcases eIs_get n.toNat r with ⟨q, r2, h3, h4⟩ | ⟨h3, h4⟩
    · rw [h3, h4]
      cases r2 with
      | nil =>
        simp only
        by_cases c : chkX q = 0
        · rw [if_pos c, if_pos ⟨rfl, c⟩]
        · rw [if_neg c, if_neg (fun h => c h.2)]
      | cons a r2 =>
        simp only
        rw [if_neg (fun h => by simp at h)]
    · rw [h3]
      rcases h4 with h4 | ⟨q, y, h4, h5⟩
      · rw [h4]
      · rw [h4]
        simp only
        rw [if_neg (fun h => by rw [h5] at h; simp at h)]
variable (X : Nat → Option Obj)
theorem eNum1 (l : List UInt8) (b : Bool) (hl : l.length < 4611686018427387904) : MSpec Tryz.prog X 34 [Lp 1000000, Ln .i64 1] (rd 1000000 l b) (Ln .u64 ((eS (l, b)).1.toNat : Nat)) (rd 1000000 (eS (l, b)).2.1 (eS (l, b)).2.2) := by
  cases b with
  | true => have h := Num_no X l true 1 rfl; cases l <;> exact h
  | false => cases l with
    | nil => exact Num_no X [] false 1 rfl
    | cons c t =>
      have h1 := Num_ok X (c :: t) 1 rfl (by simp) hl
      rw [show ((c :: t).take 1) = [c] from rfl, show ((c :: t).drop 1) = t from rfl, show le [c] = c.toNat by simp [le]] at h1
      exact h1
theorem eNum8 (l : List UInt8) (b : Bool) (hl : l.length < 4611686018427387904) : MSpec Tryz.prog X 34 [Lp 1000000, Ln .i64 8] (rd 1000000 l b) (Ln .u64 ((eW (l, b)).1 : Nat)) (rd 1000000 (eW (l, b)).2.1 (eW (l, b)).2.2) := by
  by_cases h : b = false ∧ 8 ≤ l.length
  · rw [show eW (l, b) = (le (l.take 8), l.drop 8, false) from if_pos h]
    obtain ⟨rfl, h4⟩ := h
    exact Num_ok X l 8 rfl h4 hl
  · rw [show eW (l, b) = (0, l, true) from if_neg h]
    refine Num_no X l b 8 ?_
    unfold rawOk
    cases b with
    | true => rfl
    | false => rw [decide_eq_false (by simp only [true_and] at h; omega)]; rfl
theorem eTake (l : List UInt8) (b : Bool) (hl : l.length < 4611686018427387904) : MSpec Tryz.prog X 79 [Lp 1000000] (rd 1000000 l b) (Ln .i64 ((eS (l, b)).1.toNat : Nat)) (rd 1000000 (eS (l, b)).2.1 (eS (l, b)).2.2) := by
  have h := eNum1 X l b hl
  have hk := (eS (l, b)).1.toNat_lt
  generalize (eS (l, b)).1.toNat = k at *
  generalize (eS (l, b)).2.1 = l2 at *
  generalize (eS (l, b)).2.2 = b2 at *
  refine MSpec.intro Tryz.func79 rfl (by kernel_rfl) rfl rfl rfl rfl rfl ?_
  intro C
  have hw : IntKind.i64.wrap ((k : Nat) : Int) = ((k : Nat) : Int) := wrap_i64 (by omega)
  (refine LWP.seq <| rgN <| kas rfl <| RunK.nil <| LWP.seq <| rgN <| kmv rfl <| K.callM [] (rd 1000000 l2 b2) (h) rfl rfl (by exact (And.intro ⟨_, rfl, rfl⟩ trivial)) (by exact (all_cons_true (all_cons_true rfl (all_cons_true rfl rfl)) rfl)) rfl rfl rfl rfl (by exact (.box rfl rfl .nil)) .plain <| kcv rfl hw ?_; refine kas rfl <| RunK.nil <| LWP.ret ?_)
  exact ⟨[], ⟨[_], ⟨rfl, trivial⟩, rfl⟩, ⟨⟨_, rfl, rfl⟩, trivial⟩, rfl, rfl⟩
set_option maxHeartbeats 1600000 in
theorem eTakeNum (l : List UInt8) (b : Bool) (hl : l.length < 4611686018427387904) : MSpec Tryz.prog X 94 [Lp 1000000] (rd 1000000 l b) (.tup [SI (eN (l, b)).1.1.1 (eN (l, b)).1.1.2, Sb (eN (l, b)).1.2]) (rd 1000000 (eN (l, b)).2.1 (eN (l, b)).2.2) := by
  have h1 := eTake X l b hl
  have g1 := (eS_less (l, b)).1
  unfold eN
  rcases hy1 : eS (l, b) with ⟨c, l1, b1⟩
  rw [hy1] at h1 g1
  simp only at h1 g1 ⊢
  have hc := c.toNat_lt
  by_cases c1 : 1 < c.toNat
  · rw [if_pos c1]
    refine MSpec.intro Tryz.func94 rfl (by kernel_rfl) rfl rfl rfl rfl rfl ?_
    intro C
    (refine LWP.seq <| rgN <| K.alloc rfl .plain ?_; refine kas rfl <| RunK.nil <| LWP.seq <| rgN <| kmv rfl <| K.callM [] (rd 1000000 l1 b1) (h1) rfl rfl (by exact (And.intro ⟨_, rfl, rfl⟩ trivial)) (by exact (all_cons_true (all_cons_true rfl (all_cons_true rfl rfl)) rfl)) rfl rfl rfl rfl (by exact (.box rfl rfl .nil)) .plain <| kas rfl <| RunK.nil <| LWP.seq <| LWP.seq <| rgN <| kmv rfl <| K.gtr rfl rfl (r := true) (decide_eq_true (by omega)) .plain <| RunK.nil ?_; refine LWP.condT rfl ?_; refine LWP.seq <| rgN <| K.build rfl rfl (by exact rfl) (by exact nl3 rfl rfl rfl rfl) .plain ?_; refine K.storeAll rfl rfl rfl rfl rfl rfl .plain ?_; refine kas rfl <| RunK.nil <| LWP.ret ?_)
    exact ⟨[], ⟨[_, _], ⟨⟨_, _, rfl, rfl, rfl, .inl ⟨AggT.h, rfl⟩⟩, rfl, trivial⟩, rfl⟩, ⟨⟨_, rfl, rfl⟩, trivial⟩, rfl, rfl⟩
  · rw [if_neg c1]
    have h2 := eNum8 X l1 b1 (by omega)
    have g2 := (eW_less (l1, b1)).1
    have k2 := eW_lt (l1, b1)
    rcases hy2 : eW (l1, b1) with ⟨lo, l2, b2⟩
    rw [hy2] at h2 g2 k2
    simp only at h2 g2 k2 ⊢
    have h3 := eNum8 X l2 b2 (by omega)
    have k3 := eW_lt (l2, b2)
    rcases hy3 : eW (l2, b2) with ⟨hi, l3, b3⟩
    rw [hy3] at h3 k3
    simp only at h3 k3 ⊢
    have e1 : ((lo + 18446744073709551616 * hi : Nat) : Int) / 18446744073709551616 = ((hi : Nat) : Int) := by omega
    have e2 : ((lo + 18446744073709551616 * hi : Nat) : Int) % 18446744073709551616 = ((lo : Nat) : Int) := by omega
    unfold SI
    rw [e1, e2]
    have hsg : (((c.toNat : Nat) : Int) == 1) = decide (c.toNat = 1) := by
      by_cases h : c.toNat = 1
      · rw [h]; rfl
      · rw [decide_eq_false h]; exact beq_eq_false_iff_ne.2 (by omega)
    generalize decide (c.toNat = 1) = sg at *
    refine MSpec.intro Tryz.func94 rfl (by kernel_rfl) rfl rfl rfl rfl rfl ?_
    intro C
    (refine LWP.seq <| rgN <| K.alloc rfl .plain ?_; refine kas rfl <| RunK.nil <| LWP.seq <| rgN <| kmv rfl <| K.callM [] (rd 1000000 l1 b1) (h1) rfl rfl (by exact (And.intro ⟨_, rfl, rfl⟩ trivial)) (by exact (all_cons_true (all_cons_true rfl (all_cons_true rfl rfl)) rfl)) rfl rfl rfl rfl (by exact (.box rfl rfl .nil)) .plain <| kas rfl <| RunK.nil <| LWP.seq <| LWP.seq <| rgN <| kmv rfl <| K.gtr rfl rfl (r := false) (decide_eq_false (by omega)) .plain <| RunK.nil ?_; refine LWP.condF rfl ?_; refine LWP.skip ?_; refine LWP.seq <| rgN <| kmv rfl <| keq rfl rfl hsg <| K.build rfl rfl (by exact rfl) (by exact nl3 rfl rfl rfl rfl) .plain ?_; refine K.alloc rfl .plain ?_; refine K.storeAll rfl rfl rfl rfl rfl rfl .plain ?_; refine RunK.nil <| LWP.seq <| rgN <| kmv rfl <| K.callM [] (rd 1000000 l2 b2) (h2) rfl rfl (by exact (And.intro ⟨_, rfl, rfl⟩ trivial)) (by exact (all_cons_true (all_cons_true rfl (all_cons_true rfl rfl)) rfl)) rfl rfl rfl rfl (by exact (.box rfl rfl .nil)) .plain <| kfa rfl rfl ?_; refine K.storeOne rfl rfl rfl rfl rfl (nl3 rfl rfl rfl rfl) .plain <| RunK.nil <| LWP.seq <| rgN <| kmv rfl <| K.callM [] (rd 1000000 l3 b3) (h3) rfl rfl (by exact (And.intro ⟨_, rfl, rfl⟩ trivial)) (by exact (all_cons_true (all_cons_true rfl (all_cons_true rfl rfl)) rfl)) rfl rfl rfl rfl (by exact (.box rfl rfl .nil)) .plain <| kfa rfl rfl ?_; refine K.storeOne rfl rfl rfl rfl rfl (nl3 rfl rfl rfl rfl) .plain <| RunK.nil <| LWP.seq <| rgN <| K.loadAll rfl rfl rfl .plain ?_; refine K.storeAll rfl rfl rfl rfl rfl rfl .plain ?_; refine kas rfl <| RunK.nil <| LWP.ret ?_)
    exact ⟨[], ⟨[_, _], ⟨⟨_, _, rfl, rfl, rfl, .inl ⟨AggT.h, rfl⟩⟩, rfl, trivial⟩, rfl⟩, ⟨⟨_, rfl, rfl⟩, trivial⟩, rfl, rfl⟩
theorem rowL_no {op : Int} (h1 : op ≠ 1) (h2 : op ≠ 2) (h3 : op ≠ 3) : rowL op = [.string ⟨(wordS op).toArray⟩, .int .i64 (takes op : Nat), .bool false, .bool false, .bool false] := by
  unfold rowL
  rw [beq_eq_false_iff_ne.2 h1, beq_eq_false_iff_ne.2 h2, beq_eq_false_iff_ne.2 h3]
  rfl
set_option maxHeartbeats 3200000 in
theorem eTakeIns (l : List UInt8) (b : Bool) (hl : l.length < 4611686018427387904) : MSpec Tryz.prog X 80 [Lp 1000000] (rd 1000000 l b) (.tup [.agg ((insV (eI (l, b)).1.1).map .val), Sb (eI (l, b)).1.2]) (rd 1000000 (eI (l, b)).2.1 (eI (l, b)).2.2) := by
  have h1 := eTake X l b hl
  have g1 := (eS_less (l, b)).1
  unfold eI
  rcases hy1 : eS (l, b) with ⟨c, l1, b1⟩
  rw [hy1] at h1 g1
  simp only at h1 g1 ⊢
  have hc := c.toNat_lt
  by_cases c1 : c.toNat = 1
  · rw [if_pos c1]
    rw [c1] at h1
    have h1 : MSpec Tryz.prog X 79 [Lp 1000000] (rd 1000000 l b) (Ln .i64 1) (rd 1000000 l1 b1) := h1
    have h2 := eTakeNum X l1 b1 (by omega)
    rcases hy2 : eN (l1, b1) with ⟨⟨⟨kb, kN⟩, is⟩, l2, b2⟩
    rw [hy2] at h2
    simp only at h2 ⊢
    refine MSpec.intro Tryz.func80 rfl (by kernel_rfl) rfl rfl rfl rfl rfl ?_
    intro C
    (refine LWP.seq <| rgN <| K.alloc rfl .plain ?_; refine kas rfl <| RunK.nil <| LWP.seq <| rgN <| kmv rfl <| K.callM [] (rd 1000000 l1 b1) (h1) rfl rfl (by exact (And.intro ⟨_, rfl, rfl⟩ trivial)) (by exact (all_cons_true (all_cons_true rfl (all_cons_true rfl rfl)) rfl)) rfl rfl rfl rfl (by exact (.box rfl rfl .nil)) .plain <| K.build rfl rfl (by exact rfl) (by exact nl6 rfl rfl rfl rfl rfl rfl rfl) .plain ?_; refine K.alloc rfl .plain ?_; refine K.storeAll rfl rfl rfl rfl rfl rfl .plain ?_; refine kas rfl <| RunK.nil <| LWP.seq <| rgN <| kfa rfl rfl ?_; refine kl1 rfl rfl rfl <| kca rfl rfl (rowOf_1 X) <| K.fieldAgg (m := 3) (l' := [.val (.bool false), .val (.bool false), .val (.bool true)]) rfl Tryz.underlying137 rfl (by kernel_rfl) rfl .plain ?_; refine K.alloc rfl .plain ?_; refine K.storeAll rfl rfl rfl rfl rfl rfl .plain ?_; refine RunK.nil <| LWP.seq <| LWP.seq <| rgN <| kfa rfl rfl ?_; refine kl1 rfl rfl rfl <| RunK.nil <| LWP.condF rfl ?_; refine LWP.skip ?_; refine LWP.seq <| LWP.seq <| rgN <| kfa rfl rfl ?_; refine kl1 rfl rfl rfl <| RunK.nil <| LWP.condF rfl ?_; refine LWP.skip ?_; refine LWP.seq <| LWP.seq <| rgN <| kfa rfl rfl ?_; refine kl1 rfl rfl rfl <| RunK.nil <| LWP.condT rfl ?_; refine rgN <| kmv rfl <| K.callM [] (rd 1000000 l2 b2) (h2) rfl rfl (by exact (And.intro ⟨_, rfl, rfl⟩ trivial)) (by exact (all_cons_true (all_cons_true rfl (all_cons_true rfl rfl)) rfl)) rfl rfl rfl rfl (by exact (.box rfl rfl .nil)) .plain <| kmv rfl <| kex rfl rfl <| kex rfl rfl <| kfa rfl rfl ?_; refine K.store rfl rfl rfl rfl (by kernel_rfl) (Nat.le_refl 6) rfl .plain <| kas rfl <| RunK.nil <| LWP.seq <| rgN <| K.loadAll rfl rfl rfl .plain ?_; refine kmv rfl <| K.storeAll rfl rfl rfl rfl rfl rfl .plain ?_; refine kas rfl <| RunK.nil <| LWP.ret ?_)
    exact ⟨[], ⟨[_, _], ⟨⟨_, _, rfl, rfl, rfl, .inl ⟨AggT.h, rfl⟩⟩, rfl, trivial⟩, rfl⟩, ⟨⟨_, rfl, rfl⟩, trivial⟩, rfl, rfl⟩
  rw [if_neg c1]
  by_cases c2 : c.toNat = 2
  · rw [if_pos c2]
    rw [c2] at h1
    have h1 : MSpec Tryz.prog X 79 [Lp 1000000] (rd 1000000 l b) (Ln .i64 2) (rd 1000000 l1 b1) := h1
    have h2 := eTake X l1 b1 (by omega)
    have g2 := (eS_less (l1, b1)).1
    rcases hy2 : eS (l1, b1) with ⟨ca, l2, b2⟩
    rw [hy2] at h2 g2
    simp only at h2 g2 ⊢
    have h3 := eTake X l2 b2 (by omega)
    rcases hy3 : eS (l2, b2) with ⟨cb, l3, b3⟩
    rw [hy3] at h3
    simp only at h3 ⊢
    refine MSpec.intro Tryz.func80 rfl (by kernel_rfl) rfl rfl rfl rfl rfl ?_
    intro C
    (refine LWP.seq <| rgN <| K.alloc rfl .plain ?_; refine kas rfl <| RunK.nil <| LWP.seq <| rgN <| kmv rfl <| K.callM [] (rd 1000000 l1 b1) (h1) rfl rfl (by exact (And.intro ⟨_, rfl, rfl⟩ trivial)) (by exact (all_cons_true (all_cons_true rfl (all_cons_true rfl rfl)) rfl)) rfl rfl rfl rfl (by exact (.box rfl rfl .nil)) .plain <| K.build rfl rfl (by exact rfl) (by exact nl6 rfl rfl rfl rfl rfl rfl rfl) .plain ?_; refine K.alloc rfl .plain ?_; refine K.storeAll rfl rfl rfl rfl rfl rfl .plain ?_; refine kas rfl <| RunK.nil <| LWP.seq <| rgN <| kfa rfl rfl ?_; refine kl1 rfl rfl rfl <| kca rfl rfl (rowOf_2 X) <| K.fieldAgg (m := 3) (l' := [.val (.bool true), .val (.bool true), .val (.bool false)]) rfl Tryz.underlying137 rfl (by kernel_rfl) rfl .plain ?_; refine K.alloc rfl .plain ?_; refine K.storeAll rfl rfl rfl rfl rfl rfl .plain ?_; refine RunK.nil <| LWP.seq <| LWP.seq <| rgN <| kfa rfl rfl ?_; refine kl1 rfl rfl rfl <| RunK.nil <| LWP.condT rfl ?_; refine rgN <| kmv rfl <| K.callM [] (rd 1000000 l2 b2) (h2) rfl rfl (by exact (And.intro ⟨_, rfl, rfl⟩ trivial)) (by exact (all_cons_true (all_cons_true rfl (all_cons_true rfl rfl)) rfl)) rfl rfl rfl rfl (by exact (.box rfl rfl .nil)) .plain <| kfa rfl rfl ?_; refine K.storeOne rfl rfl rfl rfl rfl (nl6 rfl rfl rfl rfl rfl rfl rfl) .plain <| RunK.nil <| LWP.seq <| LWP.seq <| rgN <| kfa rfl rfl ?_; refine kl1 rfl rfl rfl <| RunK.nil <| LWP.condT rfl ?_; refine rgN <| kmv rfl <| K.callM [] (rd 1000000 l3 b3) (h3) rfl rfl (by exact (And.intro ⟨_, rfl, rfl⟩ trivial)) (by exact (all_cons_true (all_cons_true rfl (all_cons_true rfl rfl)) rfl)) rfl rfl rfl rfl (by exact (.box rfl rfl .nil)) .plain <| kfa rfl rfl ?_; refine K.storeOne rfl rfl rfl rfl rfl (nl6 rfl rfl rfl rfl rfl rfl rfl) .plain <| RunK.nil <| LWP.seq <| LWP.seq <| rgN <| kfa rfl rfl ?_; refine kl1 rfl rfl rfl <| RunK.nil <| LWP.condF rfl ?_; refine LWP.skip ?_; refine LWP.seq <| rgN <| K.loadAll rfl rfl rfl .plain ?_; refine kmv rfl <| K.storeAll rfl rfl rfl rfl rfl rfl .plain ?_; refine kas rfl <| RunK.nil <| LWP.ret ?_)
    exact ⟨[], ⟨[_, _], ⟨⟨_, _, rfl, rfl, rfl, .inl ⟨AggT.h, rfl⟩⟩, rfl, trivial⟩, rfl⟩, ⟨⟨_, rfl, rfl⟩, trivial⟩, rfl, rfl⟩
  rw [if_neg c2]
  by_cases c3 : c.toNat = 3
  · rw [if_pos c3]
    rw [c3] at h1
    have h1 : MSpec Tryz.prog X 79 [Lp 1000000] (rd 1000000 l b) (Ln .i64 3) (rd 1000000 l1 b1) := h1
    have h2 := eTake X l1 b1 (by omega)
    rcases hy2 : eS (l1, b1) with ⟨ca, l2, b2⟩
    rw [hy2] at h2
    simp only at h2 ⊢
    refine MSpec.intro Tryz.func80 rfl (by kernel_rfl) rfl rfl rfl rfl rfl ?_
    intro C
    (refine LWP.seq <| rgN <| K.alloc rfl .plain ?_; refine kas rfl <| RunK.nil <| LWP.seq <| rgN <| kmv rfl <| K.callM [] (rd 1000000 l1 b1) (h1) rfl rfl (by exact (And.intro ⟨_, rfl, rfl⟩ trivial)) (by exact (all_cons_true (all_cons_true rfl (all_cons_true rfl rfl)) rfl)) rfl rfl rfl rfl (by exact (.box rfl rfl .nil)) .plain <| K.build rfl rfl (by exact rfl) (by exact nl6 rfl rfl rfl rfl rfl rfl rfl) .plain ?_; refine K.alloc rfl .plain ?_; refine K.storeAll rfl rfl rfl rfl rfl rfl .plain ?_; refine kas rfl <| RunK.nil <| LWP.seq <| rgN <| kfa rfl rfl ?_; refine kl1 rfl rfl rfl <| kca rfl rfl (rowOf_3 X) <| K.fieldAgg (m := 3) (l' := [.val (.bool true), .val (.bool false), .val (.bool false)]) rfl Tryz.underlying137 rfl (by kernel_rfl) rfl .plain ?_; refine K.alloc rfl .plain ?_; refine K.storeAll rfl rfl rfl rfl rfl rfl .plain ?_; refine RunK.nil <| LWP.seq <| LWP.seq <| rgN <| kfa rfl rfl ?_; refine kl1 rfl rfl rfl <| RunK.nil <| LWP.condT rfl ?_; refine rgN <| kmv rfl <| K.callM [] (rd 1000000 l2 b2) (h2) rfl rfl (by exact (And.intro ⟨_, rfl, rfl⟩ trivial)) (by exact (all_cons_true (all_cons_true rfl (all_cons_true rfl rfl)) rfl)) rfl rfl rfl rfl (by exact (.box rfl rfl .nil)) .plain <| kfa rfl rfl ?_; refine K.storeOne rfl rfl rfl rfl rfl (nl6 rfl rfl rfl rfl rfl rfl rfl) .plain <| RunK.nil <| LWP.seq <| LWP.seq <| rgN <| kfa rfl rfl ?_; refine kl1 rfl rfl rfl <| RunK.nil <| LWP.condF rfl ?_; refine LWP.skip ?_; refine LWP.seq <| LWP.seq <| rgN <| kfa rfl rfl ?_; refine kl1 rfl rfl rfl <| RunK.nil <| LWP.condF rfl ?_; refine LWP.skip ?_; refine LWP.seq <| rgN <| K.loadAll rfl rfl rfl .plain ?_; refine kmv rfl <| K.storeAll rfl rfl rfl rfl rfl rfl .plain ?_; refine kas rfl <| RunK.nil <| LWP.ret ?_)
    exact ⟨[], ⟨[_, _], ⟨⟨_, _, rfl, rfl, rfl, .inl ⟨AggT.h, rfl⟩⟩, rfl, trivial⟩, rfl⟩, ⟨⟨_, rfl, rfl⟩, trivial⟩, rfl, rfl⟩
  rw [if_neg c3]
  generalize hop : ((c.toNat : Nat) : Int) = op at *
  have hno := rowL_no (op := op) (by omega) (by omega) (by omega)
  by_cases c5 : 5 ≤ op ∧ op ≤ 17
  · have hR := rowOf_fn X op c5
    unfold LRow at hR
    rw [hno] at hR
    refine MSpec.intro Tryz.func80 rfl (by kernel_rfl) rfl rfl rfl rfl rfl ?_
    intro C
    (refine LWP.seq <| rgN <| K.alloc rfl .plain ?_; refine kas rfl <| RunK.nil <| LWP.seq <| rgN <| kmv rfl <| K.callM [] (rd 1000000 l1 b1) (h1) rfl rfl (by exact (And.intro ⟨_, rfl, rfl⟩ trivial)) (by exact (all_cons_true (all_cons_true rfl (all_cons_true rfl rfl)) rfl)) rfl rfl rfl rfl (by exact (.box rfl rfl .nil)) .plain <| K.build rfl rfl (by exact rfl) (by exact nl6 rfl rfl rfl rfl rfl rfl rfl) .plain ?_; refine K.alloc rfl .plain ?_; refine K.storeAll rfl rfl rfl rfl rfl rfl .plain ?_; refine kas rfl <| RunK.nil <| LWP.seq <| rgN <| kfa rfl rfl ?_; refine kl1 rfl rfl rfl <| K.callMp [(1000001, 600)] (.sv (.agg [.val (.string ⟨(wordS op).toArray⟩), .val (.int .i64 (takes op : Nat)), .val (.bool false), .val (.bool false), .val (.bool false), ptrF (cloF op) 600])) [dB 600 op] (hR) rfl rfl (by exact trivial) rfl rfl rfl rfl rfl (by exact (.box rfl rfl .nil)) .plain <| K.fieldAgg (m := 3) (l' := [.val (.bool false), .val (.bool false), .val (.bool false)]) rfl Tryz.underlying137 rfl (by kernel_rfl) rfl .plain ?_; refine K.alloc rfl .plain ?_; refine K.storeAll rfl rfl rfl rfl rfl rfl .plain ?_; refine RunK.nil <| LWP.seq <| LWP.seq <| rgN <| kfa rfl rfl ?_; refine kl1 rfl rfl rfl <| RunK.nil <| LWP.condF rfl ?_; refine LWP.skip ?_; refine LWP.seq <| LWP.seq <| rgN <| kfa rfl rfl ?_; refine kl1 rfl rfl rfl <| RunK.nil <| LWP.condF rfl ?_; refine LWP.skip ?_; refine LWP.seq <| LWP.seq <| rgN <| kfa rfl rfl ?_; refine kl1 rfl rfl rfl <| RunK.nil <| LWP.condF rfl ?_; refine LWP.skip ?_; refine LWP.seq <| rgN <| K.loadAll rfl rfl rfl .plain ?_; refine kmv rfl <| K.storeAll rfl rfl rfl rfl rfl rfl .plain ?_; refine kas rfl <| RunK.nil <| LWP.ret ?_)
    exact ⟨[], ⟨[_, _], ⟨⟨_, _, rfl, rfl, rfl, .inl ⟨AggT.h, rfl⟩⟩, rfl, trivial⟩, rfl⟩, ⟨⟨_, rfl, rfl⟩, trivial⟩, rfl, rfl⟩
  · have hR := rowOf_leaf X op (by omega)
    generalize leafV op = v at *
    unfold LRow at hR
    rw [hno] at hR
    refine MSpec.intro Tryz.func80 rfl (by kernel_rfl) rfl rfl rfl rfl rfl ?_
    intro C
    (refine LWP.seq <| rgN <| K.alloc rfl .plain ?_; refine kas rfl <| RunK.nil <| LWP.seq <| rgN <| kmv rfl <| K.callM [] (rd 1000000 l1 b1) (h1) rfl rfl (by exact (And.intro ⟨_, rfl, rfl⟩ trivial)) (by exact (all_cons_true (all_cons_true rfl (all_cons_true rfl rfl)) rfl)) rfl rfl rfl rfl (by exact (.box rfl rfl .nil)) .plain <| K.build rfl rfl (by exact rfl) (by exact nl6 rfl rfl rfl rfl rfl rfl rfl) .plain ?_; refine K.alloc rfl .plain ?_; refine K.storeAll rfl rfl rfl rfl rfl rfl .plain ?_; refine kas rfl <| RunK.nil <| LWP.seq <| rgN <| kfa rfl rfl ?_; refine kl1 rfl rfl rfl <| kca rfl rfl hR <| K.fieldAgg (m := 3) (l' := [.val (.bool false), .val (.bool false), .val (.bool false)]) rfl Tryz.underlying137 rfl (by kernel_rfl) rfl .plain ?_; refine K.alloc rfl .plain ?_; refine K.storeAll rfl rfl rfl rfl rfl rfl .plain ?_; refine RunK.nil <| LWP.seq <| LWP.seq <| rgN <| kfa rfl rfl ?_; refine kl1 rfl rfl rfl <| RunK.nil <| LWP.condF rfl ?_; refine LWP.skip ?_; refine LWP.seq <| LWP.seq <| rgN <| kfa rfl rfl ?_; refine kl1 rfl rfl rfl <| RunK.nil <| LWP.condF rfl ?_; refine LWP.skip ?_; refine LWP.seq <| LWP.seq <| rgN <| kfa rfl rfl ?_; refine kl1 rfl rfl rfl <| RunK.nil <| LWP.condF rfl ?_; refine LWP.skip ?_; refine LWP.seq <| rgN <| K.loadAll rfl rfl rfl .plain ?_; refine kmv rfl <| K.storeAll rfl rfl rfl rfl rfl rfl .plain ?_; refine kas rfl <| RunK.nil <| LWP.ret ?_)
    exact ⟨[], ⟨[_, _], ⟨⟨_, _, rfl, rfl, rfl, .inl ⟨AggT.h, rfl⟩⟩, rfl, trivial⟩, rfl⟩, ⟨⟨_, rfl, rfl⟩, trivial⟩, rfl, rfl⟩
def zeI (k : Nat) : List Value := (List.replicate k [Value.int .i64 0, .int .i64 0, .int .i64 0, .bool false, .int .u64 0, .int .u64 0]).flatten
theorem zeI_succ (k : Nat) : zeI (k + 1) = [Value.int .i64 0, .int .i64 0, .int .i64 0, .bool false, .int .u64 0, .int .u64 0] ++ zeI k := by unfold zeI; rw [List.replicate_succ, List.flatten_cons]
theorem zeI_len (k : Nat) : (zeI k).length = k * 6 := by
  induction k with
  | zero => rfl
  | succ k ih => rw [zeI_succ, List.length_append, ih]; simp; omega
theorem inssV_snoc2 (q : List Ins) (x : Ins) : inssV (q ++ [x]) = inssV q ++ insV x := by unfold inssV; rw [List.map_append, List.flatten_append]; simp
def gdR (s : List UInt8) : LV := match decX s with | some l => .tup [.one (.slc 1000001 0 l.length 6), Sn .i64 0] | none => .tup [Vnil, Sn .i64 4]
def gdBx (s : List UInt8) : List (Nat × Option Box) := match decX s with | some l => [(1000001, some ⟨66, (inssV l).map .val, true⟩)] | none => []
theorem gd_none {s : List UInt8} (h : decX s = none) : gdR s = .tup [Vnil, Sn .i64 4] ∧ gdBx s = [] := by unfold gdR gdBx; rw [h]; exact ⟨rfl, rfl⟩
theorem gd_some {s : List UInt8} {l : List Ins} (h : decX s = some l) : gdR s = .tup [.one (.slc 1000001 0 l.length 6), Sn .i64 0] ∧ gdBx s = [(1000001, some ⟨66, (inssV l).map .val, true⟩)] := by unfold gdR gdBx; rw [h]; exact ⟨rfl, rfl⟩
theorem gdBx_use (s : List UInt8) : ((gdBx s).all fun p => match p.2 with | some b => b.cells.all (CV.inUse (gdBx s)) | none => true) = true := by
  cases h : decX s with
  | none => rw [(gd_none h).2]; rfl
  | some l => rw [(gd_some h).2]; simp only [List.all_cons, List.all_nil, vals_use, Bool.and_true]
theorem gdR_use (s : List UInt8) : LV.inUse (gdBx s) (gdR s) = true := by
  cases h : decX s with
  | none => rw [(gd_none h).1, (gd_none h).2]; rfl
  | some l => rw [(gd_some h).1, (gd_some h).2]; rfl
abbrev deSt (m i : Nat) (l : List UInt8) (b : Bool) (cells : List Value) (Y : Nat → Option Obj) : St :=
  ⟨[(4, Lp 700), (5, .sv (.one (.slc 600 0 m 6))), (15, Ln .i64 (m : Nat)), (16, Ln .i64 (i : Nat))], rd 700 l b ++ [(600, some ⟨66, cells.map .val, false⟩)], Y⟩
set_option maxHeartbeats 6400000 in
theorem gDecodeM (s : List UInt8) (hs : s.length ≤ 1099511627776) : MSpec Tryz.prog X 59 [Ls s] [] (gdR s) (gdBx s) := by
  have hD := decX_e s
  have h1 := eTake X s false (by omega)
  have g1 := (eS_less (s, false)).1
  rcases hy1 : eS (s, false) with ⟨c, l1, b1⟩
  rw [hy1] at h1 g1 hD
  simp only at h1 g1 hD
  have hc := c.toNat_lt
  generalize c.toNat = m at *
  refine MSpec.intro Tryz.func59 rfl (by kernel_rfl) rfl (gdR_use s) (gdBx_use s) rfl rfl ?_
  intro C
  have hmk : slcBuild Tryz.prog 68 m = some (zeI m, 6, 66) := slcBuild_many (z := #[.int .i64 0, .int .i64 0, .int .i64 0, .bool false, .int .u64 0, .int .u64 0]) (by kernel_rfl) (by kernel_rfl) rfl (by omega)
  have hR := Read_spec X s
  (refine LWP.seq <| rgN <| kas rfl <| kas rfl <| RunK.nil <| LWP.seq <| rgN <| kmv rfl <| K.callMp [(1000001, 700)] (Lp 700) (rd 700 s false) (hR) rfl rfl (by exact trivial) rfl rfl rfl rfl rfl (by exact (.box rfl rfl .nil)) .plain <| kas rfl <| RunK.nil <| LWP.seq <| rgN <| kmv rfl ?_; refine K.callM [(1000000, 700)] (rd 700 l1 b1) (h1) rfl rfl (by exact (And.intro ⟨_, rfl, rfl⟩ trivial)) (by exact (all_cons_true (all_cons_true rfl (all_cons_true rfl rfl)) rfl)) rfl rfl rfl rfl (by exact (.box rfl rfl .nil)) .plain <| K.makeSlc (m := m) (bytes := 48) rfl rfl hmk (by kernel_rfl) (by omega) rfl rfl .plain <| kas rfl <| RunK.nil <| LWP.seq <| LWP.seq <| rgN <| kmv rfl <| K.lenSlc rfl SliceT.h rfl .plain ?_; refine kmv rfl <| RunK.nil <| LWP.block ?_)
  refine LWP.loop (fun k σ => ∃ (i : Nat) (q : List Ins) (l : List UInt8) (b : Bool), i ≤ m ∧ k = m - i ∧ eIs (l1, b1) i = some (q, l, b) ∧ σ = deSt m i l b (inssV q ++ zeI (m - i)) X) m
    ⟨deSt m 0 l1 b1 (inssV [] ++ zeI (m - 0)) X, Le.ofR [(700, 700), (600, 13)] (by exact ⟨rfl, rfl, rfl, rfl, trivial⟩) (by repeat' (first | exact trivial | refine And.intro ⟨_, rfl, ?_⟩ ?_ | refine And.intro ⟨_, rfl⟩ ?_ | rfl | exact Box.ren_bytes _ _ _ _ | exact Box.ren_vals _ _ _ _ | exact Box.ren_mid rfl)) (by exact rfl) (by exact rfl) (by repeat' (first | refine all_cons_true ?_ ?_ | rfl | exact bytes_inUse | exact vals_inUse | exact mid_inUse rfl)) (by exact rfl) (by exact rfl), 0, [], l1, b1, Nat.zero_le _, rfl, rfl, rfl⟩ ?_
  rintro k σ ⟨i, q, l, b, hi, rfl, hq, rfl⟩
  obtain ⟨hqn, ⟨hll, _⟩, hqs⟩ := eIs_len hq
  simp only at hll
  by_cases hlt : i < m
  · have hT := eTakeIns X l b (by omega)
    have hnx : eIs (l1, b1) (i + 1) = if (eI (l, b)).1.2 = true then some (q ++ [(eI (l, b)).1.1], (eI (l, b)).2) else none := by simp only [eIs, hq]
    rcases hy : eI (l, b) with ⟨⟨x, is⟩, l2, b2⟩
    rw [hy] at hT hnx
    simp only at hT hnx
    cases is with
    | false =>
      rw [if_neg (by decide)] at hnx
      have := eIs_none hnx (m - (i + 1))
      rw [show i + 1 + (m - (i + 1)) = m by omega] at this
      rw [this] at hD
      obtain ⟨q1, q2⟩ := gd_none hD
      rw [q1, q2]
      (refine LWP.seq <| rgN <| klt rfl rfl (decide_eq_true (by omega)) <| RunK.nil <| LWP.seq <| LWP.condT rfl ?_; refine LWP.skip ?_; refine LWP.seq <| LWP.block <| LWP.seq <| rgN <| kmv rfl <| kas rfl <| RunK.nil <| LWP.seq <| rgN <| kmv rfl <| K.callM [(1000000, 700)] (rd 700 l2 b2) (hT) rfl rfl (by exact (And.intro ⟨_, rfl, rfl⟩ trivial)) (by exact (all_cons_true (all_cons_true rfl (all_cons_true rfl rfl)) rfl)) rfl rfl rfl rfl (by exact (.box rfl rfl .nil)) .plain <| kmv rfl <| kex rfl rfl <| kex rfl rfl ?_; refine K.alloc rfl .plain ?_; refine K.storeAll rfl rfl rfl rfl rfl rfl .plain ?_; refine kas rfl <| RunK.nil <| LWP.seq <| LWP.seq <| rgN <| kmv rfl <| K.not rfl rfl .plain <| RunK.nil <| LWP.condT rfl ?_; refine LWP.seq <| rgN <| kas rfl <| kas rfl <| RunK.nil <| LWP.ret ?_)
      exact ⟨[], ⟨[_, _], ⟨rfl, rfl, trivial⟩, rfl⟩, trivial, rfl, rfl⟩
    | true =>
      rw [if_pos rfl] at hnx
      have hix : 0 + Int.toNat (i : Int) * 6 = i * 6 := by rw [Int.toNat_natCast]; omega
      have hpl : (inssV q).length = i * 6 := by have := inssV_len q; rw [List.length_map] at this; rw [this, hqn]
      have hroom : i * 6 + 6 ≤ ((inssV q ++ zeI (m - i)).map CV.val).length := by rw [List.length_map, List.length_append, hpl, zeI_len]; omega
      have hspl : splice ((inssV q ++ zeI (m - i)).map CV.val) (i * 6) ((insV x).map CV.val) = (inssV (q ++ [x]) ++ zeI (m - (i + 1))).map CV.val := by
        rw [inssV_snoc2, show m - i = (m - (i + 1)) + 1 by omega, zeI_succ]
        unfold splice
        simp only [List.map_append, List.append_assoc]
        have hml : ((inssV q).map CV.val).length = i * 6 := by rw [List.length_map, hpl]
        generalize (inssV q).map CV.val = R at *
        rw [← hml, List.take_left, List.drop_length_add_append]
        simp [insV]
      have hinc : IntKind.i64.wrap (((i : Nat) : Int) + 1) = ((i + 1 : Nat) : Int) := by rw [wrap_i64 (by omega)]; omega
      (refine LWP.seq <| rgN <| klt rfl rfl (decide_eq_true (by omega)) <| RunK.nil <| LWP.seq <| LWP.condT rfl ?_; refine LWP.skip ?_; refine LWP.seq <| LWP.block <| LWP.seq <| rgN <| kmv rfl <| kas rfl <| RunK.nil <| LWP.seq <| rgN <| kmv rfl <| K.callM [(1000000, 700)] (rd 700 l2 b2) (hT) rfl rfl (by exact (And.intro ⟨_, rfl, rfl⟩ trivial)) (by exact (all_cons_true (all_cons_true rfl (all_cons_true rfl rfl)) rfl)) rfl rfl rfl rfl (by exact (.box rfl rfl .nil)) .plain <| kmv rfl <| kex rfl rfl <| kex rfl rfl ?_; refine K.alloc rfl .plain ?_; refine K.storeAll rfl rfl rfl rfl rfl rfl .plain ?_; refine kas rfl <| RunK.nil <| LWP.seq <| LWP.seq <| rgN <| kmv rfl <| K.not rfl rfl .plain <| RunK.nil <| LWP.condF rfl ?_; refine LWP.skip ?_; refine rgN <| kmv rfl <| kmv rfl <| K.loadAll rfl rfl rfl .plain ?_; refine K.indexSlc rfl rfl (by omega) hix .plain ?_; refine K.store rfl rfl rfl rfl (by kernel_rfl) hroom hspl .plain <| RunK.nil <| rgN <| kad rfl rfl hinc <| kmv rfl <| RunK.nil ?_)
      exact ⟨m - (i + 1), deSt m (i + 1) l2 b2 (inssV (q ++ [x]) ++ zeI (m - (i + 1))) X, by omega, Le.of (by exact ⟨rfl, rfl, rfl, rfl, trivial⟩) (by exact ⟨rfl, rfl, trivial⟩) (by exact rfl) (by exact rfl) (by repeat' (first | refine all_cons_true ?_ ?_ | rfl | exact bytes_inUse | exact vals_inUse | exact mid_inUse rfl)), i + 1, q ++ [x], l2, b2, by omega, rfl, hnx, rfl⟩
  · have e : i = m := by omega
    subst e
    rw [hq] at hD
    simp only at hD
    have hz : zeI (i - i) = [] := by rw [Nat.sub_self]; rfl
    rw [hz, List.append_nil]
    rw [← hqn] at *
    clear hqn
    (refine LWP.seq <| rgN <| klt rfl rfl (decide_eq_false (by omega)) <| RunK.nil <| LWP.seq <| LWP.condF rfl ?_; refine LWP.exit <| LWP.seq <| LWP.seq ?_)
    refine LWP.le (σ' := ⟨[(5, .sv (.one (.slc 600 0 q.length 6))), (4, Lp 700)], (600, some ⟨66, (inssV q).map .val, false⟩) :: rd 700 l b, X⟩) (Le.of (by exact ⟨rfl, rfl, trivial⟩) (by exact ⟨rfl, rfl, trivial⟩) (by exact rfl) (by exact rfl) (by repeat' (first | refine all_cons_true ?_ ?_ | rfl | exact bytes_inUse | exact vals_inUse | exact mid_inUse rfl))) ?_
    refine LWP.freeze rfl rfl rfl fun sb scap sarr sfr hn hFz hcp hfit hsp => ?_
    have hin : InsIn (withBlock X sb (.cells sarr 66 sfr)) (some ⟨sb, 0, none⟩) q := ⟨rows_in (withBlock_at _ _ _) (fun r hr => by obtain ⟨x, _, rfl⟩ := List.mem_map.1 hr; rfl) hsp, hqs⟩
    have hC := gCheck' _ q (some ⟨sb, 0, none⟩) scap hin (by omega)
    have hDn := Done_spec (withBlock X sb (.cells sarr 66 sfr)) l b _ rfl
    by_cases hd : (!b && (l == [])) = true
    · rw [hd] at hDn
      by_cases hk : chkX q = 0
      · rw [if_pos ⟨hd, hk⟩] at hD
        obtain ⟨q1, q2⟩ := gd_some hD
        rw [q1, q2]
        rw [hk] at hC
        (refine rgN <| kmv rfl <| K.callM [(1000000, 700)] (rd 700 l b) (hDn) rfl rfl (by exact (And.intro ⟨_, rfl, rfl⟩ trivial)) (by exact (all_cons_true (all_cons_true rfl (all_cons_true rfl rfl)) rfl)) rfl rfl rfl rfl (by exact (.box rfl rfl .nil)) .plain <| K.not rfl rfl .plain <| kmv rfl <| gmv rfl rfl rfl <| gca rfl rfl hC rfl rfl <| K.neq rfl rfl (r := false) rfl (.taken rfl rfl) ?_; refine kpf rfl rfl <| RunK.nil <| LWP.condF rfl ?_; refine LWP.skip ?_; refine LWP.seq ?_)
        refine LWP.le (σ' := ⟨[(5, .sv (.one (.val (.slice (some ⟨sb, 0, none⟩) q.length scap))))], [], withBlock X sb (.cells sarr 66 sfr)⟩) (Le.of (by exact ⟨rfl, trivial⟩) (by exact trivial) (by exact rfl) (by exact rfl) (by repeat' (first | refine all_cons_true ?_ ?_ | rfl | exact bytes_inUse | exact vals_inUse | exact mid_inUse rfl))) ?_
        refine LWP.thaw (k := 600) (sz := 6) (vals := inssV q) hn hFz hcp hfit hsp rfl rfl rfl (by decide) ?_
        (refine rgN <| kmv rfl <| kas rfl <| kas rfl <| RunK.nil <| LWP.ret ?_)
        exact ⟨[(1000001, 600)], ⟨[_, _], ⟨rfl, rfl, trivial⟩, rfl⟩, (by repeat' (first | exact trivial | refine And.intro ⟨_, rfl, ?_⟩ ?_ | refine And.intro ⟨_, rfl⟩ ?_ | rfl | exact Box.ren_bytes _ _ _ _ | exact Box.ren_vals _ _ _ _ | exact Box.ren_mid rfl)), rfl, rfl⟩
      · rw [if_neg (fun h => hk h.2)] at hD
        obtain ⟨q1, q2⟩ := gd_none hD
        rw [q1, q2]
        (refine rgN <| kmv rfl <| K.callM [(1000000, 700)] (rd 700 l b) (hDn) rfl rfl (by exact (And.intro ⟨_, rfl, rfl⟩ trivial)) (by exact (all_cons_true (all_cons_true rfl (all_cons_true rfl rfl)) rfl)) rfl rfl rfl rfl (by exact (.box rfl rfl .nil)) .plain <| K.not rfl rfl .plain <| kmv rfl <| gmv rfl rfl rfl <| gca rfl rfl hC rfl rfl <| K.neq rfl rfl (r := true) (bne_iff_ne.2 hk) (.taken rfl rfl) ?_; refine kpf rfl rfl <| RunK.nil <| LWP.condT rfl ?_; refine LWP.seq <| rgN <| kas rfl <| kas rfl <| RunK.nil <| LWP.ret ?_)
        exact ⟨[], ⟨[_, _], ⟨rfl, rfl, trivial⟩, rfl⟩, trivial, rfl, rfl⟩
    · rw [if_neg (fun h => hd h.1)] at hD
      obtain ⟨q1, q2⟩ := gd_none hD
      rw [q1, q2]
      rw [Bool.not_eq_true] at hd
      rw [hd] at hDn
      (refine rgN <| kmv rfl <| K.callM [(1000000, 700)] (rd 700 l b) (hDn) rfl rfl (by exact (And.intro ⟨_, rfl, rfl⟩ trivial)) (by exact (all_cons_true (all_cons_true rfl (all_cons_true rfl rfl)) rfl)) rfl rfl rfl rfl (by exact (.box rfl rfl .nil)) .plain <| K.not rfl rfl .plain <| kmv rfl <| RunK.passed rfl rfl rfl <| RunK.passed rfl rfl rfl <| RunK.passed rfl rfl rfl <| kpt rfl rfl <| RunK.nil <| LWP.condT rfl ?_; refine LWP.seq <| rgN <| kas rfl <| kas rfl <| RunK.nil <| LWP.ret ?_)
      exact ⟨[], ⟨[_, _], ⟨rfl, rfl, trivial⟩, rfl⟩, trivial, rfl, rfl⟩
end Go.Proofs.YtamplgnbbanamaaGreatDoor
end
section
namespace Go.Proofs.YtamplgnbbanamaaGreatDoor
open Go Go.Lg Go.Lg.Fml Go.Lg.Fld Go.Lg.Arith
set_option maxRecDepth 100000
theorem eqT_expr {o a b o' a' b' : Int} {s s' : Bool} {h l h' l' : Int} (r : Bool) (hr : (o == o' && (a == a' && (b == b' && (s == s' && (h == h' && l == l'))))) = r) (w : World) :
    (Op.equalIn 10000 66 (.agg [.int .i64 o, .int .i64 a, .int .i64 b, .bool s, .int .u64 h, .int .u64 l].toArray) (.agg [.int .i64 o', .int .i64 a', .int .i64 b', .bool s', .int .u64 h', .int .u64 l'].toArray)).run Tryz.prog w = .ok r w := by
  subst hr
  rw [show (10000 : Nat) = 9999 + 1 from rfl, run_equalIn_agg w 9999 66 _ _ (by kernel_rfl) (by kernel_rfl)]
  simp only [Program.fieldsOf, Tryz.underlying66]
  go_simp
  by_cases e1 : o = o'
  · by_cases e2 : a = a'
    · by_cases e3 : b = b'
      · by_cases e4 : s = s'
        · by_cases e5 : h = h'
          · by_cases e6 : l = l' <;> simp [e1, e2, e3, e4, e5, e6]
          · simp [e1, e2, e3, e4, e5]
        · simp [e1, e2, e3, e4]
      · simp [e1, e2, e3]
    · simp [e1, e2]
  · simp [e1]
theorem insEq {x y : Ins} (hx : In2 x.k.2) (hy : In2 y.k.2) : (x.op == y.op && (x.a == y.a && (x.b == y.b && (x.k.1 == y.k.1 && (x.k.2 / 18446744073709551616 == y.k.2 / 18446744073709551616 && x.k.2 % 18446744073709551616 == y.k.2 % 18446744073709551616))))) = decide (x = y) := by
  obtain ⟨o, a, b, k, m⟩ := x
  obtain ⟨o', a', b', k', m'⟩ := y
  have h := eqN (b := k) (b' := k') hx hy
  rw [show (k == k' && (m / 18446744073709551616 == m' / 18446744073709551616 && m % 18446744073709551616 == m' % 18446744073709551616)) = decide (((k, m) : Nm) = (k', m')) from h]
  by_cases e1 : o = o'
  · by_cases e2 : a = a'
    · by_cases e3 : b = b'
      · by_cases e4 : ((k, m) : Nm) = (k', m')
        · rw [e1, e2, e3, e4]; simp
        · rw [decide_eq_false e4, decide_eq_false (fun e => e4 (congrArg Ins.k e))]; simp
      · rw [decide_eq_false (fun e => e3 (congrArg Ins.b e)), show (b == b') = false from beq_eq_false_iff_ne.2 e3]; simp
    · rw [decide_eq_false (fun e => e2 (congrArg Ins.a e)), show (a == a') = false from beq_eq_false_iff_ne.2 e2]; simp
  · rw [decide_eq_false (fun e => e1 (congrArg Ins.op e)), show (o == o') = false from beq_eq_false_iff_ne.2 e1]; simp
variable (X : Nat → Option Obj)
theorem gShow (hT : XTab X) (l : List Ins) (ad : Option Addr) (cap : Nat) (hin : InsIn X ad l) (hl : l.length < 1152921504606846976) : PSpec Tryz.prog X 71 [Lx ad l.length cap] (Ls (showX l)) := by
  exact gShow' X hT l ad cap hin hl
theorem gDecode_no (s : List UInt8) (hs : s.length ≤ 1099511627776) (h : decX s = none) : PSpec Tryz.prog X 59 [Ls s] (.tup [Vnil, Sn .i64 4]) := by
  have hM := gDecodeM X s hs
  obtain ⟨q1, q2⟩ := gd_none h
  rw [q1, q2] at hM
  exact hM.plain
theorem gDecode_ok (s : List UInt8) (hs : s.length ≤ 1099511627776) {l : List Ins} (h : decX s = some l) : MSpec Tryz.prog X 59 [Ls s] [] (.tup [.one (.slc 1000001 0 l.length 6), Sn .i64 0]) [(1000001, some ⟨66, (inssV l).map .val, true⟩)] := by
  have hM := gDecodeM X s hs
  obtain ⟨q1, q2⟩ := gd_some h
  rw [q1, q2] at hM
  exact hM
end Go.Proofs.YtamplgnbbanamaaGreatDoor
end
section
namespace Go.Proofs.YtamplgnbbanamaaGreatDoor
open Go Go.Lg Go.Lg.Fml Go.Lg.Fld Go.Lg.Arith
set_option maxRecDepth 100000
variable (X : Nat → Option Obj)
def sizeB (rs : List Rl) : Prop := ∀ r ∈ rs, r.ex.length < 9223372036854775808 ∧ ∀ c ∈ r.ex, c.length < 9223372036854775808
def grtR (r : Rl) : Bool := decide (12 < r.ex.length) || r.ex.any fun c => decide (80 < c.length)
def grtP (rs : List Rl) : Bool := decide (30 < rs.length) || rs.any grtR
theorem grtP_false {rs : List Rl} (h : grtP rs = false) : rs.length ≤ 30 ∧ ∀ r ∈ rs, r.ex.length ≤ 12 ∧ ∀ c ∈ r.ex, c.length ≤ 80 := by
  unfold grtP at h
  rw [Bool.or_eq_false_iff, decide_eq_false_iff_not] at h
  refine ⟨by omega, fun r hr => ?_⟩
  have h1 : grtR r = false := by have := List.any_eq_false.1 h.2 r hr; simpa using this
  unfold grtR at h1
  rw [Bool.or_eq_false_iff, decide_eq_false_iff_not] at h1
  refine ⟨by omega, fun c hc => ?_⟩
  have := List.any_eq_false.1 h1.2 c hc
  simpa using this
set_option maxHeartbeats 3200000 in
theorem great12_spec (p : Pg) (ad : Option Addr) (cap : Nat) (hin : RulesIn X ad p.rs) (hbig : p.rs.length < 9223372036854775808) (hsz : sizeB p.rs) :
    PSpec Tryz.prog X 8 [LPg p.va p.vb ad p.rs.length cap] (Lb (grtP p.rs)) := by
  obtain ⟨va, vb, rs⟩ := p
  simp only at hin hbig hsz ⊢
  refine PSpec.intro Tryz.func8 rfl (by kernel_rfl) rfl rfl ?_
  intro C
  unfold grtP
  by_cases h1 : 30 < rs.length
  · rw [decide_eq_true h1]
    (refine LWP.seq <| rgN <| K.box rfl rfl rfl .plain <| kas rfl <| RunK.nil <| LWP.seq <| LWP.seq <| rgN <| kfa rfl rfl ?_; refine kl1 rfl rfl rfl <| K.lenX rfl SliceT.h rfl .plain ?_; refine K.gtr rfl rfl (decide_eq_true (by omega)) .plain <| RunK.nil <| LWP.condT rfl ?_; refine LWP.seq <| rgN <| kas rfl <| RunK.nil <| LWP.ret ?_)
    exact ⟨[_], ⟨rfl, trivial⟩, rfl⟩
  rw [decide_eq_false h1, Bool.false_or]
  (refine LWP.seq <| rgN <| K.box rfl rfl rfl .plain <| kas rfl <| RunK.nil <| LWP.seq <| LWP.seq <| rgN <| kfa rfl rfl ?_; refine kl1 rfl rfl rfl <| K.lenX rfl SliceT.h rfl .plain ?_; refine K.gtr rfl rfl (decide_eq_false (by omega)) .plain <| RunK.nil <| LWP.condF rfl ?_; refine LWP.skip ?_; refine LWP.seq <| LWP.seq <| rgN <| kas rfl <| RunK.nil <| LWP.block ?_)
  refine LWP.loop (fun m σ => ∃ i : Nat, i ≤ rs.length ∧ m = rs.length - i ∧ (rs.take i).any grtR = false ∧ σ = ⟨[(1, Lp 1), (3, Ln .i64 (i : Nat))], [v3B 24 1 va vb ad rs.length cap], X⟩) rs.length
    ⟨_, Le.of (by exact ⟨rfl, rfl, trivial⟩) (by exact ⟨rfl, trivial⟩) (by exact rfl) (by exact rfl) (by repeat' (first | refine all_cons_true ?_ ?_ | rfl | exact bytes_inUse | exact vals_inUse | exact mid_inUse rfl)), 0, by omega, by omega, rfl, rfl⟩ ?_
  rintro m σ ⟨i, hi, rfl, hany, rfl⟩
  by_cases hlt : i < rs.length
  case neg =>
    have e : i = rs.length := by omega
    subst e
    rw [List.take_length] at hany
    rw [hany]
    (refine LWP.seq <| LWP.seq <| rgN <| kmv rfl <| kfa rfl rfl ?_; refine kl1 rfl rfl rfl <| K.lenX rfl SliceT.h rfl .plain ?_; refine klt rfl rfl (decide_eq_false (by omega)) <| RunK.nil <| LWP.condF rfl ?_; refine LWP.exit <| LWP.seq <| rgN <| kas rfl <| RunK.nil <| LWP.ret ?_)
    exact ⟨[_], ⟨rfl, trivial⟩, rfl⟩
  obtain ⟨r, hr⟩ : ∃ r, rs[i]? = some r := ⟨_, List.getElem?_eq_getElem hlt⟩
  obtain ⟨blk, off, arr, el, fr, ead, ecap, rfl, hX, hsiz, hcs, g1, g2, g3, hE⟩ := hin.get hr
  have hio : off + Int.toNat (i : Int) * 3 = off + i * 3 := by simp
  obtain ⟨hel, hcl⟩ := hsz r (List.mem_of_getElem? hr)
  have hyes : grtR r = true → rs.any grtR = true := fun h => List.any_eq_true.2 ⟨r, List.mem_of_getElem? hr, h⟩
  by_cases h12 : 12 < r.ex.length
  · rw [hyes (by unfold grtR; rw [decide_eq_true h12]; rfl)]
    (refine LWP.seq <| LWP.seq <| rgN <| kmv rfl <| kfa rfl rfl ?_; refine kl1 rfl rfl rfl <| K.lenX rfl SliceT.h rfl .plain ?_; refine klt rfl rfl (decide_eq_true (by omega)) <| RunK.nil <| LWP.condT rfl ?_; refine LWP.skip ?_; refine LWP.seq <| LWP.block <| LWP.seq <| LWP.seq <| rgN <| kfa rfl rfl ?_; refine kl1 rfl rfl rfl <| kmv rfl <| K.indexX rfl rfl SliceT.h (by omega) hio .plain <| K.fieldAddrX rfl rfl .plain ?_; refine K.loadX rfl hX rfl g3 .plain <| K.lenX rfl SliceT.h rfl .plain ?_; refine K.gtr rfl rfl (decide_eq_true (by omega)) .plain <| RunK.nil <| LWP.condT rfl ?_; refine LWP.seq <| rgN <| kas rfl <| RunK.nil <| LWP.ret ?_)
    exact ⟨[_], ⟨rfl, trivial⟩, rfl⟩
  (refine LWP.seq <| LWP.seq <| rgN <| kmv rfl <| kfa rfl rfl ?_; refine kl1 rfl rfl rfl <| K.lenX rfl SliceT.h rfl .plain ?_; refine klt rfl rfl (decide_eq_true (by omega)) <| RunK.nil <| LWP.condT rfl ?_; refine LWP.skip ?_; refine LWP.seq <| LWP.block <| LWP.seq <| LWP.seq <| rgN <| kfa rfl rfl ?_; refine kl1 rfl rfl rfl <| kmv rfl <| K.indexX rfl rfl SliceT.h (by omega) hio .plain <| K.fieldAddrX rfl rfl .plain ?_; refine K.loadX rfl hX rfl g3 .plain <| K.lenX rfl SliceT.h rfl .plain ?_; refine K.gtr rfl rfl (decide_eq_false (by omega)) .plain <| RunK.nil <| LWP.condF rfl ?_; refine LWP.skip ?_; refine LWP.seq <| rgN <| kas rfl <| RunK.nil <| LWP.block ?_)
  refine LWP.loop (fun m σ => ∃ k : Nat, k ≤ r.ex.length ∧ m = r.ex.length - k ∧ (r.ex.take k).any (fun c => decide (80 < c.length)) = false ∧ σ = ⟨[(1, Lp 1), (3, Ln .i64 (i : Nat)), (4, Ln .i64 (k : Nat))], [v3B 24 1 va vb (some ⟨blk, off, none⟩) rs.length cap], X⟩) r.ex.length
    ⟨_, Le.of (by exact ⟨rfl, rfl, rfl, trivial⟩) (by exact ⟨rfl, trivial⟩) (by exact rfl) (by exact rfl) (by repeat' (first | refine all_cons_true ?_ ?_ | rfl | exact bytes_inUse | exact vals_inUse | exact mid_inUse rfl)), 0, by omega, by omega, rfl, rfl⟩ ?_
  rintro m σ ⟨k, hk, rfl, hany2, rfl⟩
  by_cases hkl : k < r.ex.length
  case neg =>
    have e : k = r.ex.length := by omega
    subst e
    rw [List.take_length] at hany2
    have hno : grtR r = false := by unfold grtR; rw [decide_eq_false h12, hany2]; rfl
    have hnx : (rs.take (i + 1)).any grtR = false := by rw [take_snoc hr, List.any_append, hany]; simp [hno]
    have hadd : IntKind.i64.wrap ((i : Int) + 1) = ((i + 1 : Nat) : Int) := by rw [wrap_i64 (by omega)]; omega
    (refine LWP.seq <| LWP.seq <| rgN <| kmv rfl <| kfa rfl rfl ?_; refine kl1 rfl rfl rfl <| kmv rfl <| K.indexX rfl rfl SliceT.h (by omega) hio .plain <| K.fieldAddrX rfl rfl .plain ?_; refine K.loadX rfl hX rfl g3 .plain <| K.lenX rfl SliceT.h rfl .plain ?_; refine klt rfl rfl (decide_eq_false (by omega)) <| RunK.nil <| LWP.condF rfl ?_; refine LWP.exit <| rgN <| kmv rfl <| kad rfl rfl hadd <| kas rfl <| RunK.nil ?_)
    exact ⟨_, ⟨[(1, Lp 1), (3, Ln .i64 (i + 1 : Nat))], [v3B 24 1 va vb (some ⟨blk, off, none⟩) rs.length cap], X⟩, by omega, Le.of (by exact ⟨rfl, rfl, trivial⟩) (by exact ⟨rfl, trivial⟩) (by exact rfl) (by exact rfl) (by repeat' (first | refine all_cons_true ?_ ?_ | rfl | exact bytes_inUse | exact vals_inUse | exact mid_inUse rfl)), i + 1, by omega, rfl, hnx, rfl⟩
  obtain ⟨c, hc⟩ : ∃ c, r.ex[k]? = some c := ⟨_, List.getElem?_eq_getElem hkl⟩
  obtain ⟨eb, eo, earr, eel, efr, vad, vcap, rfl, hEX, hec, hI⟩ := hE.get hc
  have hio3 : eo + Int.toNat (k : Int) * 1 = eo + k * 1 := by simp
  by_cases h80 : 80 < c.length
  · rw [hyes (by unfold grtR; rw [decide_eq_false h12, Bool.false_or]; exact List.any_eq_true.2 ⟨c, List.mem_of_getElem? hc, decide_eq_true h80⟩)]
    (refine LWP.seq <| LWP.seq <| rgN <| kmv rfl <| kfa rfl rfl ?_; refine kl1 rfl rfl rfl <| kmv rfl <| K.indexX rfl rfl SliceT.h (by omega) hio .plain <| K.fieldAddrX rfl rfl .plain ?_; refine K.loadX rfl hX rfl g3 .plain <| K.lenX rfl SliceT.h rfl .plain ?_; refine klt rfl rfl (decide_eq_true (by omega)) <| RunK.nil <| LWP.condT rfl ?_; refine LWP.skip ?_; refine LWP.seq <| LWP.block <| LWP.seq <| rgN <| kfa rfl rfl ?_; refine kl1 rfl rfl rfl <| kmv rfl <| K.indexX rfl rfl SliceT.h (by omega) hio .plain <| K.fieldAddrX rfl rfl .plain ?_; refine K.loadX rfl hX rfl g3 .plain <| kmv rfl <| K.indexX rfl rfl SliceT.h (by omega) hio3 .plain <| K.loadX rfl hEX rfl hec .plain <| K.lenX rfl SliceT.h rfl .plain ?_; refine K.gtr rfl rfl (decide_eq_true (by omega)) .plain <| RunK.nil <| LWP.condT rfl ?_; refine LWP.seq <| rgN <| kas rfl <| RunK.nil <| LWP.ret ?_)
    exact ⟨[_], ⟨rfl, trivial⟩, rfl⟩
  have hnx : (r.ex.take (k + 1)).any (fun c => decide (80 < c.length)) = false := by rw [take_snoc hc, List.any_append, hany2]; simp; omega
  have hadd : IntKind.i64.wrap ((k : Int) + 1) = ((k + 1 : Nat) : Int) := by rw [wrap_i64 (by omega)]; omega
  (refine LWP.seq <| LWP.seq <| rgN <| kmv rfl <| kfa rfl rfl ?_; refine kl1 rfl rfl rfl <| kmv rfl <| K.indexX rfl rfl SliceT.h (by omega) hio .plain <| K.fieldAddrX rfl rfl .plain ?_; refine K.loadX rfl hX rfl g3 .plain <| K.lenX rfl SliceT.h rfl .plain ?_; refine klt rfl rfl (decide_eq_true (by omega)) <| RunK.nil <| LWP.condT rfl ?_; refine LWP.skip ?_; refine LWP.seq <| LWP.block <| LWP.seq <| rgN <| kfa rfl rfl ?_; refine kl1 rfl rfl rfl <| kmv rfl <| K.indexX rfl rfl SliceT.h (by omega) hio .plain <| K.fieldAddrX rfl rfl .plain ?_; refine K.loadX rfl hX rfl g3 .plain <| kmv rfl <| K.indexX rfl rfl SliceT.h (by omega) hio3 .plain <| K.loadX rfl hEX rfl hec .plain <| K.lenX rfl SliceT.h rfl .plain ?_; refine K.gtr rfl rfl (decide_eq_false (by omega)) .plain <| RunK.nil <| LWP.condF rfl ?_; refine LWP.skip ?_; refine rgN <| kmv rfl <| kad rfl rfl hadd <| kas rfl <| RunK.nil ?_)
  exact ⟨_, ⟨[(1, Lp 1), (3, Ln .i64 (i : Nat)), (4, Ln .i64 (k + 1 : Nat))], [v3B 24 1 va vb (some ⟨blk, off, none⟩) rs.length cap], X⟩, by omega, Le.of (by exact ⟨rfl, rfl, rfl, trivial⟩) (by exact ⟨rfl, trivial⟩) (by exact rfl) (by exact rfl) (by repeat' (first | refine all_cons_true ?_ ?_ | rfl | exact bytes_inUse | exact vals_inUse | exact mid_inUse rfl)), k + 1, by omega, rfl, hnx, rfl⟩
end Go.Proofs.YtamplgnbbanamaaGreatDoor
end
section
namespace Go.Proofs.YtamplgnbbanamaaGreatDoor
open Go Go.Lg Go.Lg.Fml Go.Lg.Fld Go.RowKit Go.ChangeShapes Go.WideShapes Go.Joins
set_option maxRecDepth 100000
section
variable {H : Type} {enc : TypeId × Value → H} {w : World}
theorem open_inss_l {fuel : Nat} {lv : List Value} {xx : DataW H × List MemPlace} (h : DataW.trod enc Tryz.prog w 0 (fun _ => true) true fuel 68 lv = some xx) :
    ∃ (ad : Option Addr) (cap : Nat) (l : List Ins), lv = [.slice ad l.length cap] ∧ l.length < 9223372036854775808 ∧ InsIn (fun b => w.heap[b]?) ad l := by
  obtain ⟨ad, cap, rows, rfl, h1, h2, h3, h4⟩ := open_rows_l (e := 66) (sz := 6) (by kernel_rfl) (by kernel_rfl) (by decide) h
  obtain ⟨l, rfl, h5⟩ := map_of (f := insV) (q := smallI) (vs := rows) (fun u hu => by
    obtain ⟨hlen, n, x, hx⟩ := h4 u hu
    obtain ⟨y0, y1, y2, y3, n', _, _, g0, g1, g2, g3⟩ := trod_struct4 (t := 66) Tryz.underlying66 hx
    obtain ⟨c0, c1, c2, c3, c4, c5, rfl⟩ : ∃ c0 c1 c2 c3 c4 c5, u = [c0, c1, c2, c3, c4, c5] := by
      match u, hlen with
      | [c0, c1, c2, c3, c4, c5], _ => exact ⟨c0, c1, c2, c3, c4, c5, rfl⟩
    obtain ⟨k0, e0, _, wa0⟩ := DataW.trod_int (k := .i64) (by kernel_rfl) g0
    obtain ⟨k1, e1, _, wa1⟩ := DataW.trod_int (k := .i64) (by kernel_rfl) g1
    obtain ⟨k2, e2, _, wa2⟩ := DataW.trod_int (k := .i64) (by kernel_rfl) g2
    obtain ⟨z0, z1, z2, m', _, _, j0, j1, j2⟩ := Deep.trod_struct3 (t := 64) Tryz.underlying64 g3
    obtain ⟨b, e3, _⟩ := DataW.trod_bool (by kernel_rfl) j0
    obtain ⟨x, e4, _, wa4⟩ := DataW.trod_int (k := .u64) (by kernel_rfl) j1
    obtain ⟨y, e5, _, wa5⟩ := DataW.trod_int (k := .u64) (by kernel_rfl) j2
    have q0 : c0 = .int .i64 k0 := by simpa using (show ([c0, c1, c2, c3, c4, c5].drop 0).take 1 = [.int .i64 k0] from e0)
    have q1 : c1 = .int .i64 k1 := by simpa using (show ([c0, c1, c2, c3, c4, c5].drop 1).take 1 = [.int .i64 k1] from e1)
    have q2 : c2 = .int .i64 k2 := by simpa using (show ([c0, c1, c2, c3, c4, c5].drop 2).take 1 = [.int .i64 k2] from e2)
    have q3 : c3 = .bool b := by simpa using (show ((([c0, c1, c2, c3, c4, c5].drop 3).take 3).drop 0).take 1 = [.bool b] from e3)
    have q4 : c4 = .int .u64 x := by simpa using (show ((([c0, c1, c2, c3, c4, c5].drop 3).take 3).drop 1).take 1 = [.int .u64 x] from e4)
    have q5 : c5 = .int .u64 y := by simpa using (show ((([c0, c1, c2, c3, c4, c5].drop 3).take 3).drop 2).take 1 = [.int .u64 y] from e5)
    subst q0 q1 q2 q3 q4 q5
    have b0 := bounds_i64 wa0
    have b1 := bounds_i64 wa1
    have b2 := bounds_i64 wa2
    have b4 := bounds_u64 wa4
    have b5 := bounds_u64 wa5
    refine ⟨⟨k0, k1, k2, (b, x * 18446744073709551616 + y)⟩, ?_, by show -9223372036854775808 ≤ k0 ∧ k0 < 9223372036854775808; omega, by show -9223372036854775808 ≤ k1 ∧ k1 < 9223372036854775808; omega, by show -9223372036854775808 ≤ k2 ∧ k2 < 9223372036854775808; omega, by show 0 ≤ x * 18446744073709551616 + y; omega, by show x * 18446744073709551616 + y < _; omega⟩
    unfold insV
    show _ = [Value.int .i64 k0, .int .i64 k1, .int .i64 k2, .bool b, .int .u64 ((x * 18446744073709551616 + y) / 18446744073709551616), .int .u64 ((x * 18446744073709551616 + y) % 18446744073709551616)]
    rw [show (x * 18446744073709551616 + y) / 18446744073709551616 = x by omega, show (x * 18446744073709551616 + y) % 18446744073709551616 = y by omega])
  exact ⟨ad, cap, l, by rw [List.length_map], by rw [List.length_map] at h1; unfold maxLen at h2; omega, ⟨h3, h5⟩⟩
theorem open_codes_l {fuel : Nat} {lv : List Value} {xx : DataW H × List MemPlace} (h : DataW.trod enc Tryz.prog w 0 (fun _ => true) true fuel 44 lv = some xx) :
    ∃ (ad : Option Addr) (cap : Nat) (cs : List (List Ins)), lv = [.slice ad cs.length cap] ∧ cs.length < 9223372036854775808 ∧ CodesIn (fun b => w.heap[b]?) ad cs ∧ ∀ c ∈ cs, c.length < 9223372036854775808 := by
  obtain ⟨ad, cap, rows, rfl, h1, h2, h3, h4⟩ := open_rows_l (e := 68) (sz := 1) (by kernel_rfl) (by kernel_rfl) (by decide) h
  obtain ⟨ts, rfl, h5⟩ := map_of (f := fun t : List Ins × Option Addr × Nat => [Value.slice t.2.1 t.1.length t.2.2]) (q := fun t => InsIn (fun b => w.heap[b]?) t.2.1 t.1 ∧ t.1.length < 9223372036854775808) (vs := rows) (fun u hu => by
    obtain ⟨hlen, n, x, hx⟩ := h4 u hu
    obtain ⟨vad, vcap, ns, e1, k1, hF⟩ := open_inss_l hx
    exact ⟨(ns, vad, vcap), e1, hF, k1⟩)
  refine ⟨ad, cap, ts.map (·.1), by rw [List.length_map, List.length_map], by rw [List.length_map] at h1 ⊢; unfold maxLen at h2; omega, ⟨fun i r hr => ?_⟩, fun r hr => ?_⟩
  · rw [List.getElem?_map] at hr
    cases ht : ts[i]? with
    | none => rw [ht] at hr; cases hr
    | some t =>
      rw [ht] at hr
      simp only [Option.map_some, Option.some.injEq] at hr
      subst hr
      obtain ⟨blk, off, arr, el, fr, g1, g2, g3, g4⟩ := h3 i _ (by rw [List.getElem?_map, ht]; rfl)
      have g5 : arr[off + i]? = some (.slice t.2.1 t.1.length t.2.2) := by
        have := congrArg (fun l : List Value => l[0]?) g4
        simpa [List.getElem?_take, List.getElem?_drop] using this
      exact ⟨blk, off, arr, el, fr, t.2.1, t.2.2, g1, g2, g3, g5, (h5 t (List.mem_of_getElem? ht)).1⟩
  · obtain ⟨t, ht, rfl⟩ := List.mem_map.1 hr
    exact (h5 t ht).2
theorem open_rules_l {fuel : Nat} {lv : List Value} {xx : DataW H × List MemPlace} (h : DataW.trod enc Tryz.prog w 0 (fun _ => true) true fuel 22 lv = some xx) :
    ∃ (ad : Option Addr) (cap : Nat) (rs : List Rl), lv = [.slice ad rs.length cap] ∧ rs.length < 9223372036854775808 ∧ RulesIn (fun b => w.heap[b]?) ad rs ∧ sizeB rs := by
  obtain ⟨ad, cap, rows, rfl, h1, h2, h3, h4⟩ := open_rows_l (e := 46) (sz := 3) (by kernel_rfl) (by kernel_rfl) (by decide) h
  obtain ⟨ts, rfl, h5⟩ := map_of (f := fun t : Rl × Option Addr × Nat => [.int .i64 t.1.nw, .int .i64 t.1.old, .slice t.2.1 t.1.ex.length t.2.2]) (q := fun t => (CodesIn (fun b => w.heap[b]?) t.2.1 t.1.ex ∧ smallR t.1) ∧ t.1.ex.length < 9223372036854775808 ∧ ∀ c ∈ t.1.ex, c.length < 9223372036854775808) (vs := rows) (fun u hu => by
    obtain ⟨hlen, n, x, hx⟩ := h4 u hu
    obtain ⟨y0, y1, y2, n', _, _, g0, g1, g2⟩ := Deep.trod_struct3 (t := 46) Tryz.underlying46 hx
    obtain ⟨e0', e1', e2', rfl⟩ : ∃ c0 c1 c2, u = [c0, c1, c2] := by
      match u, hlen with
      | [c0, c1, c2], _ => exact ⟨c0, c1, c2, rfl⟩
    obtain ⟨k, e0, _, wa0⟩ := DataW.trod_int (k := .i64) (by kernel_rfl) g0
    obtain ⟨o, e1, _, wa1⟩ := DataW.trod_int (k := .i64) (by kernel_rfl) g1
    obtain ⟨ead, ecap, cs, e2, hl, hF, hFl⟩ := open_codes_l g2
    have q0 : e0' = .int .i64 k := by simpa using (show ([e0', e1', e2'].drop 0).take 1 = [.int .i64 k] from e0)
    have q1 : e1' = .int .i64 o := by simpa using (show ([e0', e1', e2'].drop 1).take 1 = [.int .i64 o] from e1)
    have q2 : e2' = .slice ead cs.length ecap := by simpa using (show ([e0', e1', e2'].drop 2).take 1 = [.slice ead cs.length ecap] from e2)
    subst q0 q1 q2
    have b0 := bounds_i64 wa0
    have b1 := bounds_i64 wa1
    exact ⟨(⟨k, o, cs⟩, ead, ecap), rfl, ⟨hF, (show -9223372036854775808 ≤ k ∧ k < 9223372036854775808 by omega), (show -9223372036854775808 ≤ o ∧ o < 9223372036854775808 by omega)⟩, hl, hFl⟩)
  refine ⟨ad, cap, ts.map (·.1), by rw [List.length_map, List.length_map], by rw [List.length_map] at h1 ⊢; unfold maxLen at h2; omega, ⟨fun i c hc => ?_, fun c hc => ?_⟩, fun c hc => ?_⟩
  · rw [List.getElem?_map] at hc
    cases ht : ts[i]? with
    | none => rw [ht] at hc; cases hc
    | some t =>
      rw [ht] at hc
      simp only [Option.map_some, Option.some.injEq] at hc
      subst hc
      obtain ⟨blk, off, arr, el, fr, g1, g2, g3, g4⟩ := h3 i _ (by rw [List.getElem?_map, ht]; rfl)
      exact ⟨blk, off, arr, el, fr, t.2.1, t.2.2, g1, g2, g3, g4, (h5 t (List.mem_of_getElem? ht)).1.1⟩
  · obtain ⟨t, ht, rfl⟩ := List.mem_map.1 hc
    exact (h5 t ht).1.2
  · obtain ⟨t, ht, rfl⟩ := List.mem_map.1 hc
    exact (h5 t ht).2
theorem cellsPg : Tryz.prog.cellsOf 24 = 3 := by kernel_rfl
theorem open_prog {r : Reach} {b0 : Nat} {v : Value} {d : DataW H} {p : List MemPlace} (hv : Value.okWide Tryz.prog w r b0 24 v) (h : DataW.Trod enc Tryz.prog w 0 (fun _ => true) true 24 v d p) :
    ∃ (va vb : Int) (ad : Option Addr) (cap : Nat) (rs : List Rl), v = .agg #[.int .i64 va, .int .i64 vb, .slice ad rs.length cap] ∧ ((-9223372036854775808 ≤ va ∧ va < 9223372036854775808) ∧ -9223372036854775808 ≤ vb ∧ vb < 9223372036854775808) ∧ rs.length < 9223372036854775808 ∧ RulesIn (fun b => w.heap[b]?) ad rs ∧ sizeB rs := by
  obtain ⟨v0, v1, v2, y0, y1, y2, m, rfl, rfl, rfl, hy0, hy1, hy2⟩ := open_agg3 Tryz.underlying24 (by kernel_rfl) cellsPg hv h
  obtain ⟨x, e0, rfl, wa0⟩ := DataW.trod_int (k := .i64) (by kernel_rfl) hy0
  obtain ⟨y, e1, rfl, wa1⟩ := DataW.trod_int (k := .i64) (by kernel_rfl) hy1
  obtain ⟨ad, cap, rs, e2, h1, h2, h3⟩ := open_rules_l hy2
  simp at e0 e1 e2
  subst e0 e1 e2
  have b0 := bounds_i64 wa0
  have b1 := bounds_i64 wa1
  exact ⟨x, y, ad, cap, rs, rfl, by omega, h1, h2, h3⟩
end
end Go.Proofs.YtamplgnbbanamaaGreatDoor
end
section
namespace Go.Proofs.YtamplgnbbanamaaGreatDoor
open Go Go.Lg Go.Lg.Fml Go.Lg.Fld Go.Lg.Arith
set_option maxRecDepth 100000
def rwZ : List Rl → List Value → List Value
  | r :: rs, v :: vs => .int .i64 r.nw :: .int .i64 r.old :: v :: rwZ rs vs
  | _, _ => []
theorem rwZ_len : ∀ {rs : List Rl} {ws : List Value}, ws.length = rs.length → (rwZ rs ws).length = rs.length * 3
  | [], [], _ => rfl
  | c :: cs, v :: vs, h => by
    simp only [rwZ, List.length_cons] at h ⊢
    rw [rwZ_len (rs := cs) (ws := vs) (by omega)]; omega
  | [], _ :: _, h => by simp at h
  | _ :: _, [], h => by simp at h
theorem rwZ_add : ∀ {rs : List Rl} {ws : List Value} {r : Rl} {v : Value}, ws.length = rs.length → rwZ (rs ++ [r]) (ws ++ [v]) = rwZ rs ws ++ [.int .i64 r.nw, .int .i64 r.old, v]
  | [], [], _, _, _ => rfl
  | c :: cs, w :: ws, r, v, h => by
    simp only [List.length_cons] at h
    simp only [List.cons_append, rwZ]
    rw [rwZ_add (rs := cs) (ws := ws) (by omega)]
  | [], _ :: _, _, _, h => by simp at h
  | _ :: _, [], _, _, h => by simp at h
theorem rwZ_at : ∀ {i : Nat} {rs : List Rl} {ws sp : List Value} {r : Rl} {w : Value}, rs[i]? = some r → ws[i]? = some w → ((rwZ rs ws ++ sp).drop (i * 3)).take 3 = [.int .i64 r.nw, .int .i64 r.old, w]
  | 0, c :: cs, v :: vs, sp, r, w, h1, h2 => by
    simp only [List.getElem?_cons_zero, Option.some.injEq] at h1 h2
    subst h1 h2
    rfl
  | i + 1, c :: cs, v :: vs, sp, r, w, h1, h2 => by
    simp only [List.getElem?_cons_succ] at h1 h2
    have := rwZ_at (sp := sp) h1 h2
    rw [show (i + 1) * 3 = i * 3 + 3 by omega]
    exact this
  | _, [], _, _, _, _, h, _ => by simp at h
  | _, _ :: _, [], _, _, _, _, h => by simp at h
theorem snoc_get {α : Type} {l : List α} {a x : α} {i : Nat} (h : (l ++ [a])[i]? = some x) : (i < l.length ∧ l[i]? = some x) ∨ (i = l.length ∧ x = a) := by
  by_cases e : i < l.length
  · rw [List.getElem?_append_left e] at h; exact .inl ⟨e, h⟩
  · have h1 := (List.getElem?_eq_some_iff.1 h).1
    rw [List.length_append] at h1
    simp only [List.length_singleton] at h1
    have e2 : i = l.length := by omega
    subst e2
    rw [List.getElem?_append_right (Nat.le_refl _), Nat.sub_self] at h
    simp only [List.getElem?_cons_zero, Option.some.injEq] at h
    exact .inr ⟨rfl, h.symm⟩
structure FormsH (H : Nat → Option Obj) (vs : List Value) (cs : List (List Ins)) : Prop where
  len : vs.length = cs.length
  at_ : ∀ (i : Nat) (v : Value) (c : List Ins), vs[i]? = some v → cs[i]? = some c → ∃ (vad : Option Addr) (vcap : Nat), v = .slice vad c.length vcap ∧ InsIn H vad c
theorem FormsH.nil {H : Nat → Option Obj} : FormsH H [] [] := ⟨rfl, fun i v c h => by simp at h⟩
theorem FormsH.mono {H H' : Nat → Option Obj} (hH : ∀ b o, H b = some o → H' b = some o) {vs : List Value} {cs : List (List Ins)} (G : FormsH H vs cs) : FormsH H' vs cs := ⟨G.len, fun i v c hv hc => by
  obtain ⟨vad, vcap, h1, h2⟩ := G.at_ i v c hv hc
  exact ⟨vad, vcap, h1, h2.mono hH⟩⟩
theorem FormsH.push {H : Nat → Option Obj} {vs : List Value} {cs : List (List Ins)} (G : FormsH H vs cs) {v : Value} {c : List Ins} (hv : ∃ (vad : Option Addr) (vcap : Nat), v = .slice vad c.length vcap ∧ InsIn H vad c) : FormsH H (vs ++ [v]) (cs ++ [c]) := ⟨by rw [List.length_append, List.length_append, G.len]; rfl, fun i w d hw hd => by
  have hl := G.len
  rcases snoc_get hw with ⟨h1, h2⟩ | ⟨h1, rfl⟩
  · rcases snoc_get hd with ⟨h3, h4⟩ | ⟨h3, _⟩
    · exact G.at_ i w d h2 h4
    · omega
  · rcases snoc_get hd with ⟨h3, _⟩ | ⟨_, rfl⟩
    · omega
    · exact hv⟩
structure RulesH (H : Nat → Option Obj) (ws : List Value) (rs : List Rl) : Prop where
  len : ws.length = rs.length
  at_ : ∀ (i : Nat) (w : Value) (r : Rl), ws[i]? = some w → rs[i]? = some r → ∃ (ead : Option Addr) (ecap : Nat), w = .slice ead r.ex.length ecap ∧ CodesIn H ead r.ex
theorem RulesH.nil {H : Nat → Option Obj} : RulesH H [] [] := ⟨rfl, fun i v c h => by simp at h⟩
theorem RulesH.mono {H H' : Nat → Option Obj} (hH : ∀ b o, H b = some o → H' b = some o) {vs : List Value} {cs : List Rl} (G : RulesH H vs cs) : RulesH H' vs cs := ⟨G.len, fun i v c hv hc => by
  obtain ⟨vad, vcap, h1, h2⟩ := G.at_ i v c hv hc
  exact ⟨vad, vcap, h1, h2.mono hH⟩⟩
theorem RulesH.push {H : Nat → Option Obj} {vs : List Value} {cs : List Rl} (G : RulesH H vs cs) {v : Value} {c : Rl} (hv : ∃ (vad : Option Addr) (vcap : Nat), v = .slice vad c.ex.length vcap ∧ CodesIn H vad c.ex) : RulesH H (vs ++ [v]) (cs ++ [c]) := ⟨by rw [List.length_append, List.length_append, G.len]; rfl, fun i w d hw hd => by
  have hl := G.len
  rcases snoc_get hw with ⟨h1, h2⟩ | ⟨h1, rfl⟩
  · rcases snoc_get hd with ⟨h3, h4⟩ | ⟨h3, _⟩
    · exact G.at_ i w d h2 h4
    · omega
  · rcases snoc_get hd with ⟨h3, _⟩ | ⟨_, rfl⟩
    · omega
    · exact hv⟩
theorem forms_block {Y : Nat → Option Obj} {blk : Nat} {arr : Array Value} {el : TypeId} {fr : Nat × Nat} {vs sp : List Value} {cs : List (List Ins)} (hY : Y blk = some (.cells arr el fr)) (h : arr.toList = vs ++ sp) (G : FormsH Y vs cs) : CodesIn Y (some ⟨blk, 0, none⟩) cs := ⟨fun i c hc => by
  have hi := (List.getElem?_eq_some_iff.1 hc).1
  have hl := G.len
  obtain ⟨v, hv⟩ : ∃ v, vs[i]? = some v := ⟨_, List.getElem?_eq_getElem (by omega)⟩
  obtain ⟨vad, vcap, h1, h2⟩ := G.at_ i v c hv hc
  have hsz : arr.size = vs.length + sp.length := by rw [← Array.length_toList, h, List.length_append]
  refine ⟨blk, 0, arr, el, fr, vad, vcap, rfl, hY, by omega, ?_, h2⟩
  rw [← Array.getElem?_toList, h, Nat.zero_add, List.getElem?_append_left (by omega), hv, h1]⟩
theorem rules_block {Y : Nat → Option Obj} {blk : Nat} {arr : Array Value} {el : TypeId} {fr : Nat × Nat} {ws sp : List Value} {rs : List Rl} (hY : Y blk = some (.cells arr el fr)) (h : arr.toList = rwZ rs ws ++ sp) (G : RulesH Y ws rs) (hs : ∀ r ∈ rs, smallR r) : RulesIn Y (some ⟨blk, 0, none⟩) rs := ⟨fun i r hr => by
  have hi := (List.getElem?_eq_some_iff.1 hr).1
  have hl := G.len
  obtain ⟨v, hv⟩ : ∃ v, ws[i]? = some v := ⟨_, List.getElem?_eq_getElem (by omega)⟩
  obtain ⟨ead, ecap, h1, h2⟩ := G.at_ i v r hv hr
  have hsz : arr.size = rs.length * 3 + sp.length := by rw [← Array.length_toList, h, List.length_append, rwZ_len hl]
  refine ⟨blk, 0, arr, el, fr, ead, ecap, rfl, hY, by omega, ?_, h2⟩
  rw [h, Nat.zero_add, rwZ_at hr hv, h1], hs⟩
def rlR (t : TypeId) (rs : List Rl) : Rsc := ⟨fun ρ H => (∃ (arr : Array Value) (fr : Nat × Nat), H ρ.1 = some (.cells arr t fr) ∧ arr.size = ρ.2) ∧ RulesIn H (some ⟨ρ.1, 0, none⟩) rs⟩
abbrev rlB (t : TypeId) (k : Nat) (rs : List Rl) : Nat × Option Box := (k, some ⟨0, [], .res (rlR t rs)⟩)
section
variable {n : Nat} {C : Ctx} {X : Nat → Option Obj} {s : List (Nat × LV)} {bx : List (Nat × Option Box)} {k : Nat}
end
theorem ins_leads {H : Nat → Option Obj} {b : Nat} {v : Value} {el : TypeId} {c : List Ins} (h : LeadsTo H b v el 6 (inssV c)) (hs : ∀ x ∈ c, smallI x) : ∃ (vad : Option Addr) (vcap : Nat), v = .slice vad c.length vcap ∧ InsIn H vad c := by
  obtain ⟨len, cap, arr, fr, h1, h2, _, _, h5, h6⟩ := h
  have hl := inssV_len c
  rw [List.length_map] at hl
  have e : len = c.length := by omega
  subst e
  exact ⟨_, cap, h1, ins_in h5 hs h6⟩
theorem CodesIn.nilIn {H : Nat → Option Obj} : ∃ (ead : Option Addr) (ecap : Nat), Value.slice none 0 0 = .slice ead ([] : List (List Ins)).length ecap ∧ CodesIn H ead [] := ⟨none, 0, rfl, CodesIn.nil⟩
variable (X : Nat → Option Obj)
end Go.Proofs.YtamplgnbbanamaaGreatDoor
end
section
namespace Go.Proofs.YtamplgnbbanamaaGreatDoor
open Go Go.Lg Go.Lg.Fml Go.Lg.Fld Go.Lg.Arith
set_option maxRecDepth 100000
theorem getEs_snoc : ∀ {i : Nat} {b r : List UInt8} {l : List (List Ins)}, getEs i b = some (l, r) → getEs (i + 1) b = match getE r with | some (x, r') => some (l ++ [x], r') | none => none
  | 0, b, r, l, h => by
    simp only [getEs, Option.some.injEq, Prod.mk.injEq] at h
    obtain ⟨rfl, rfl⟩ := h
    simp only [getEs]
    cases getE b with
    | none => rfl
    | some p => rfl
  | i + 1, b, r, l, h => by
    rw [getEs] at h ⊢
    cases hg : getE b with
    | none => rw [hg] at h; cases h
    | some p =>
      rw [hg] at h
      simp only at h ⊢
      cases hs : getEs i p.2 with
      | none => rw [hs] at h; cases h
      | some q =>
        rw [hs] at h
        simp only [Option.some.injEq, Prod.mk.injEq] at h
        obtain ⟨rfl, rfl⟩ := h
        rw [getEs_snoc hs]
        cases getE q.2 with
        | none => rfl
        | some u => rfl
theorem getEs_none : ∀ {i k : Nat} {b : List UInt8}, getEs i b = none → getEs (i + k) b = none
  | 0, k, b, h => by cases h
  | i + 1, k, b, h => by
    rw [Nat.add_right_comm, getEs] at *
    cases hg : getE b with
    | none => rfl
    | some p =>
      rw [hg] at h
      simp only at h ⊢
      cases hs : getEs i p.2 with
      | none => rw [getEs_none (k := k) hs]
      | some q => rw [hs] at h; cases h
theorem getEs_fail {n i : Nat} {b r : List UInt8} {l : List (List Ins)} (h : getEs i b = some (l, r)) (hi : i < n) (hf : getE r = none) : getEs n b = none := by
  have h1 := getEs_snoc h
  rw [hf] at h1
  have h2 := getEs_none (k := n - (i + 1)) h1
  rw [show i + 1 + (n - (i + 1)) = n by omega] at h2
  exact h2
theorem getEs_step {i : Nat} {b r r' : List UInt8} {l : List (List Ins)} {x : List Ins} (h : getEs i b = some (l, r)) (hf : getE r = some (x, r')) : getEs (i + 1) b = some (l ++ [x], r') := by
  have h1 := getEs_snoc h
  rw [hf] at h1
  exact h1
theorem getRls_snoc : ∀ {i : Nat} {b r : List UInt8} {l : List Rl}, getRls i b = some (l, r) → getRls (i + 1) b = match getRl r with | some (x, r') => some (l ++ [x], r') | none => none
  | 0, b, r, l, h => by
    simp only [getRls, Option.some.injEq, Prod.mk.injEq] at h
    obtain ⟨rfl, rfl⟩ := h
    simp only [getRls]
    cases getRl b with
    | none => rfl
    | some p => rfl
  | i + 1, b, r, l, h => by
    rw [getRls] at h ⊢
    cases hg : getRl b with
    | none => rw [hg] at h; cases h
    | some p =>
      rw [hg] at h
      simp only at h ⊢
      cases hs : getRls i p.2 with
      | none => rw [hs] at h; cases h
      | some q =>
        rw [hs] at h
        simp only [Option.some.injEq, Prod.mk.injEq] at h
        obtain ⟨rfl, rfl⟩ := h
        rw [getRls_snoc hs]
        cases getRl q.2 with
        | none => rfl
        | some u => rfl
theorem getRls_none : ∀ {i k : Nat} {b : List UInt8}, getRls i b = none → getRls (i + k) b = none
  | 0, k, b, h => by cases h
  | i + 1, k, b, h => by
    rw [Nat.add_right_comm, getRls] at *
    cases hg : getRl b with
    | none => rfl
    | some p =>
      rw [hg] at h
      simp only at h ⊢
      cases hs : getRls i p.2 with
      | none => rw [getRls_none (k := k) hs]
      | some q => rw [hs] at h; cases h
theorem getRls_fail {n i : Nat} {b r : List UInt8} {l : List Rl} (h : getRls i b = some (l, r)) (hi : i < n) (hf : getRl r = none) : getRls n b = none := by
  have h1 := getRls_snoc h
  rw [hf] at h1
  have h2 := getRls_none (k := n - (i + 1)) h1
  rw [show i + 1 + (n - (i + 1)) = n by omega] at h2
  exact h2
theorem getRls_step {i : Nat} {b r r' : List UInt8} {l : List Rl} {x : Rl} (h : getRls i b = some (l, r)) (hf : getRl r = some (x, r')) : getRls (i + 1) b = some (l ++ [x], r') := by
  have h1 := getRls_snoc h
  rw [hf] at h1
  exact h1
theorem getRl_no {n o m : UInt8} {r : List UInt8} (h : getEs m.toNat r = none) : getRl (n :: o :: m :: r) = none := by unfold getRl; simp only [h]
theorem getRl_yes {n o m : UInt8} {r r' : List UInt8} {l : List (List Ins)} (h : getEs m.toNat r = some (l, r')) : getRl (n :: o :: m :: r) = some (⟨(n.toNat : Nat), (o.toNat : Nat), l⟩, r') := by unfold getRl; simp only [h]
theorem getE_short {r : List UInt8} (h : r.length < 4) : getE r = none := by
  unfold getE get4
  rw [if_neg (by omega)]
theorem getE_long {r : List UInt8} (h : 4 ≤ r.length) (h2 : (r.drop 4).length < le (r.take 4)) : getE r = none := by
  unfold getE get4
  rw [if_pos h]
  simp only
  rw [if_neg (by omega)]
theorem getE_at {r : List UInt8} (h : 4 ≤ r.length) (h2 : le (r.take 4) ≤ (r.drop 4).length) : getE r = match decX ((r.drop 4).take (le (r.take 4))) with
    | some l => some (l, (r.drop 4).drop (le (r.take 4)))
    | none => none := by
  unfold getE get4
  rw [if_pos h]
  simp only
  rw [if_pos h2]
  cases decX ((r.drop 4).take (le (r.take 4))) <;> rfl
theorem get4_cons (a b c d : UInt8) (r : List UInt8) : get4 (a :: b :: c :: d :: r) = some (le [a, b, c, d], r) := by
  unfold get4
  rw [if_pos (by simp only [List.length_cons]; omega)]
  rfl
theorem decP_long (a0 a1 a2 a3 b0 b1 b2 b3 nb : UInt8) (r : List UInt8) : decP (77 :: a0 :: a1 :: a2 :: a3 :: b0 :: b1 :: b2 :: b3 :: nb :: r) = match getRls nb.toNat r with
    | some (l, []) => if chkP ⟨(le [a0, a1, a2, a3] : Nat), (le [b0, b1, b2, b3] : Nat), l⟩ = 0 then some ⟨(le [a0, a1, a2, a3] : Nat), (le [b0, b1, b2, b3] : Nat), l⟩ else none
    | _ => none := by
  unfold decP
  simp only
  rw [if_pos (by decide), get4_cons]
  simp only
  rw [get4_cons]
  simp only
  cases getRls nb.toNat r with
  | none => rfl
  | some p =>
    obtain ⟨l, q⟩ := p
    cases q <;> rfl
theorem decP_head {c : UInt8} {r : List UInt8} (h : c ≠ 77) : decP (c :: r) = none := by
  unfold decP
  simp only
  rw [if_neg]
  intro e
  exact h (UInt8.toNat_inj.1 e)
theorem decP_short {s : List UInt8} (h : s.length < 10) : decP s = none := by
  cases hd : decP s with
  | none => rfl
  | some p =>
    have h1 := (encP_dec hd).1
    have h2 := congrArg List.length h1
    unfold encP at h2
    simp only [List.length_cons, List.length_append, leB_length] at h2
    omega
theorem small_dec {s : List UInt8} {l : List Ins} (h : decX s = some l) : ∀ x ∈ l, smallI x := fun x hx => by
  obtain ⟨_, _, _, h3⟩ := encX_dec h
  obtain ⟨h4, h5, h6, h7, _⟩ := h3 x hx
  exact ⟨by omega, by omega, by omega, h7⟩
variable (X : Nat → Option Obj)
end Go.Proofs.YtamplgnbbanamaaGreatDoor
end
section
namespace Go.Proofs.YtamplgnbbanamaaGreatDoor
open Go Go.Lg Go.Lg.Fml Go.Lg.Fld Go.Lg.Arith
set_option maxRecDepth 100000
variable (X : Nat → Option Obj)
theorem kIsVersion (n : Int) : PSpec Tryz.prog X 29 [Ln .i64 n] (Lb (verOk n)) := by
  refine PSpec.intro Tryz.func29 rfl (by kernel_rfl) rfl rfl ?_
  intro C
  by_cases h1 : 1 ≤ n
  · by_cases h2 : n ≤ 1073741824
    · rw [show verOk n = true by unfold verOk; simp; omega]
      (refine LWP.seq <| rgN <| kas rfl <| RunK.nil <| LWP.seq <| rgN <| kmv rfl <| K.geq rfl rfl (decide_eq_true (by omega)) .plain <| kmv rfl <| gmv rfl rfl rfl <| K.leq rfl rfl (decide_eq_true (by omega)) (.taken rfl rfl) ?_; refine kpt rfl rfl <| kas rfl <| RunK.nil <| LWP.ret ?_)
      exact ⟨[_], ⟨rfl, trivial⟩, rfl⟩
    · rw [show verOk n = false by unfold verOk; simp; omega]
      (refine LWP.seq <| rgN <| kas rfl <| RunK.nil <| LWP.seq <| rgN <| kmv rfl <| K.geq rfl rfl (decide_eq_true (by omega)) .plain <| kmv rfl <| gmv rfl rfl rfl <| K.leq rfl rfl (decide_eq_false (by omega)) (.taken rfl rfl) ?_; refine kpt rfl rfl <| kas rfl <| RunK.nil <| LWP.ret ?_)
      exact ⟨[_], ⟨rfl, trivial⟩, rfl⟩
  · rw [show verOk n = false by unfold verOk; simp; omega]
    (refine LWP.seq <| rgN <| kas rfl <| RunK.nil <| LWP.seq <| rgN <| kmv rfl <| K.geq rfl rfl (decide_eq_false (by omega)) .plain <| kmv rfl <| RunK.passed rfl rfl rfl <| RunK.passed rfl rfl rfl <| kpf rfl rfl <| kas rfl <| RunK.nil ?_; refine LWP.ret ?_)
    exact ⟨[_], ⟨rfl, trivial⟩, rfl⟩
set_option maxHeartbeats 3200000 in
theorem kCheckRule (r : Rl) (ead : Option Addr) (ecap : Nat) (hE : CodesIn X ead r.ex) (h1 : r.ex.length < 4611686018427387904) (h2 : ∀ c ∈ r.ex, c.length < 1152921504606846976) (last : Int) (h0 : 0 ≤ last) :
    PSpec Tryz.prog X 30 [LPg r.nw r.old ead r.ex.length ecap, Ln .i64 last] (Ln .i64 (chkR r last)) := by
  refine PSpec.intro Tryz.func30 rfl (by kernel_rfl) rfl rfl ?_
  intro C
  obtain ⟨nw, old, ex⟩ := r
  simp only at hE h1 h2 ⊢
  by_cases c1 : nw ≤ last
  · rw [show chkR ⟨nw, old, ex⟩ last = 1 from if_pos (by simp only; omega)]
    (refine LWP.seq <| rgN <| K.box rfl rfl rfl .plain <| kas rfl <| RunK.nil <| LWP.seq <| LWP.block <| LWP.seq <| rgN <| kfa rfl rfl ?_; refine kl1 rfl rfl rfl <| kmv rfl <| K.leq rfl rfl (decide_eq_true (by omega)) .plain <| kmv rfl <| RunK.passed rfl rfl rfl <| RunK.passed rfl rfl rfl <| RunK.passed rfl rfl rfl <| kpt rfl rfl <| kmv rfl <| RunK.passed rfl rfl rfl <| RunK.passed rfl rfl rfl <| RunK.passed rfl rfl rfl <| kpt rfl rfl <| kmv rfl ?_; refine RunK.passed rfl rfl rfl <| RunK.passed rfl rfl rfl <| RunK.passed rfl rfl rfl <| kpt rfl rfl <| kas rfl <| RunK.nil <| LWP.condT rfl ?_; refine LWP.seq <| rgN <| kas rfl <| RunK.nil <| LWP.ret ?_)
    exact ⟨[_], ⟨rfl, trivial⟩, rfl⟩
  by_cases c2 : 24 < nw
  · rw [show chkR ⟨nw, old, ex⟩ last = 1 from if_pos (by simp only; omega)]
    (refine LWP.seq <| rgN <| K.box rfl rfl rfl .plain <| kas rfl <| RunK.nil <| LWP.seq <| LWP.block <| LWP.seq <| rgN <| kfa rfl rfl ?_; refine kl1 rfl rfl rfl <| kmv rfl <| K.leq rfl rfl (decide_eq_false (by omega)) .plain <| kmv rfl <| K.fieldAddr rfl rfl (.taken rfl rfl) ?_; refine K.loadOne rfl rfl rfl (.taken rfl rfl) ?_; refine K.gtr rfl rfl (decide_eq_true (by omega)) (.taken rfl rfl) ?_; refine kpf rfl rfl <| kmv rfl <| RunK.passed rfl rfl rfl <| RunK.passed rfl rfl rfl <| RunK.passed rfl rfl rfl <| kpt rfl rfl <| kmv rfl <| RunK.passed rfl rfl rfl <| RunK.passed rfl rfl rfl <| RunK.passed rfl rfl rfl <| kpt rfl rfl <| kas rfl <| RunK.nil <| LWP.condT rfl ?_; refine LWP.seq <| rgN <| kas rfl <| RunK.nil <| LWP.ret ?_)
    exact ⟨[_], ⟨rfl, trivial⟩, rfl⟩
  by_cases c3 : old < 0
  · rw [show chkR ⟨nw, old, ex⟩ last = 1 from if_pos (by simp only; omega)]
    (refine LWP.seq <| rgN <| K.box rfl rfl rfl .plain <| kas rfl <| RunK.nil <| LWP.seq <| LWP.block <| LWP.seq <| rgN <| kfa rfl rfl ?_; refine kl1 rfl rfl rfl <| kmv rfl <| K.leq rfl rfl (decide_eq_false (by omega)) .plain <| kmv rfl <| K.fieldAddr rfl rfl (.taken rfl rfl) ?_; refine K.loadOne rfl rfl rfl (.taken rfl rfl) ?_; refine K.gtr rfl rfl (decide_eq_false (by omega)) (.taken rfl rfl) ?_; refine kpf rfl rfl <| kmv rfl <| K.fieldAddr rfl rfl (.taken rfl rfl) ?_; refine K.loadOne rfl rfl rfl (.taken rfl rfl) ?_; refine K.lss rfl rfl (decide_eq_true (by omega)) (.taken rfl rfl) ?_; refine kpf rfl rfl <| kmv rfl <| RunK.passed rfl rfl rfl <| RunK.passed rfl rfl rfl <| RunK.passed rfl rfl rfl <| kpt rfl rfl <| kas rfl <| RunK.nil <| LWP.condT rfl ?_; refine LWP.seq <| rgN <| kas rfl <| RunK.nil <| LWP.ret ?_)
    exact ⟨[_], ⟨rfl, trivial⟩, rfl⟩
  by_cases c4 : 24 < old
  · rw [show chkR ⟨nw, old, ex⟩ last = 1 from if_pos (by simp only; omega)]
    (refine LWP.seq <| rgN <| K.box rfl rfl rfl .plain <| kas rfl <| RunK.nil <| LWP.seq <| LWP.block <| LWP.seq <| rgN <| kfa rfl rfl ?_; refine kl1 rfl rfl rfl <| kmv rfl <| K.leq rfl rfl (decide_eq_false (by omega)) .plain <| kmv rfl <| K.fieldAddr rfl rfl (.taken rfl rfl) ?_; refine K.loadOne rfl rfl rfl (.taken rfl rfl) ?_; refine K.gtr rfl rfl (decide_eq_false (by omega)) (.taken rfl rfl) ?_; refine kpf rfl rfl <| kmv rfl <| K.fieldAddr rfl rfl (.taken rfl rfl) ?_; refine K.loadOne rfl rfl rfl (.taken rfl rfl) ?_; refine K.lss rfl rfl (decide_eq_false (by omega)) (.taken rfl rfl) ?_; refine kpf rfl rfl <| kmv rfl <| K.fieldAddr rfl rfl (.taken rfl rfl) ?_; refine K.loadOne rfl rfl rfl (.taken rfl rfl) ?_; refine K.gtr rfl rfl (decide_eq_true (by omega)) (.taken rfl rfl) ?_; refine kpf rfl rfl <| kas rfl <| RunK.nil <| LWP.condT rfl ?_; refine LWP.seq <| rgN <| kas rfl <| RunK.nil <| LWP.ret ?_)
    exact ⟨[_], ⟨rfl, trivial⟩, rfl⟩
  have e1 : chkR ⟨nw, old, ex⟩ last = if old = 0 ∧ ex ≠ [] then 4 else if 8 < ex.length then 5 else firstX ex := if_neg (by simp only; omega)
  rw [e1]
  have hl : ex ≠ [] ↔ 0 < ex.length := by rw [List.length_pos_iff]
  by_cases c5 : old = 0
  · by_cases c6 : 0 < ex.length
    · rw [if_pos ⟨c5, hl.2 c6⟩]
      (refine LWP.seq <| rgN <| K.box rfl rfl rfl .plain <| kas rfl <| RunK.nil <| LWP.seq <| LWP.block <| LWP.seq <| rgN <| kfa rfl rfl ?_; refine kl1 rfl rfl rfl <| kmv rfl <| K.leq rfl rfl (decide_eq_false (by omega)) .plain <| kmv rfl <| K.fieldAddr rfl rfl (.taken rfl rfl) ?_; refine K.loadOne rfl rfl rfl (.taken rfl rfl) ?_; refine K.gtr rfl rfl (decide_eq_false (by omega)) (.taken rfl rfl) ?_; refine kpf rfl rfl <| kmv rfl <| K.fieldAddr rfl rfl (.taken rfl rfl) ?_; refine K.loadOne rfl rfl rfl (.taken rfl rfl) ?_; refine K.lss rfl rfl (decide_eq_false (by omega)) (.taken rfl rfl) ?_; refine kpf rfl rfl <| kmv rfl <| K.fieldAddr rfl rfl (.taken rfl rfl) ?_; refine K.loadOne rfl rfl rfl (.taken rfl rfl) ?_; refine K.gtr rfl rfl (decide_eq_false (by omega)) (.taken rfl rfl) ?_; refine kpf rfl rfl <| kas rfl <| RunK.nil <| LWP.condF rfl ?_; refine LWP.seq <| rgN <| kfa rfl rfl ?_; refine kl1 rfl rfl rfl <| keq rfl rfl (beq_iff_eq.2 c5) <| kmv rfl <| K.fieldAddr rfl rfl (.taken rfl rfl) ?_; refine K.loadOne rfl rfl rfl (.taken rfl rfl) ?_; refine K.lenX rfl SliceT.h rfl (.taken rfl rfl) ?_; refine K.gtr rfl rfl (decide_eq_true (by omega)) (.taken rfl rfl) ?_; refine kpt rfl rfl <| kas rfl <| RunK.nil <| LWP.condT rfl ?_; refine LWP.seq <| rgN <| kas rfl <| RunK.nil <| LWP.ret ?_)
      exact ⟨[_], ⟨rfl, trivial⟩, rfl⟩
    · have e0 : ex = [] := by
        by_cases h : ex = []
        · exact h
        · exact absurd (hl.1 h) c6
      subst e0
      rw [if_neg (fun h => h.2 rfl), if_neg (by decide)]
      ((refine LWP.seq <| rgN <| K.box rfl rfl rfl .plain <| kas rfl <| RunK.nil <| LWP.seq <| LWP.block <| LWP.seq <| rgN <| kfa rfl rfl ?_; refine kl1 rfl rfl rfl <| kmv rfl <| K.leq rfl rfl (decide_eq_false (by omega)) .plain <| kmv rfl <| K.fieldAddr rfl rfl (.taken rfl rfl) ?_; refine K.loadOne rfl rfl rfl (.taken rfl rfl) ?_; refine K.gtr rfl rfl (decide_eq_false (by omega)) (.taken rfl rfl) ?_; refine kpf rfl rfl <| kmv rfl <| K.fieldAddr rfl rfl (.taken rfl rfl) ?_; refine K.loadOne rfl rfl rfl (.taken rfl rfl) ?_; refine K.lss rfl rfl (decide_eq_false (by omega)) (.taken rfl rfl) ?_; refine kpf rfl rfl <| kmv rfl <| K.fieldAddr rfl rfl (.taken rfl rfl) ?_; refine K.loadOne rfl rfl rfl (.taken rfl rfl) ?_; refine K.gtr rfl rfl (decide_eq_false (by omega)) (.taken rfl rfl) ?_; refine kpf rfl rfl <| kas rfl <| RunK.nil <| LWP.condF rfl ?_; refine LWP.seq <| rgN <| kfa rfl rfl ?_); (refine kl1 rfl rfl rfl <| keq rfl rfl (beq_iff_eq.2 c5) <| kmv rfl <| K.fieldAddr rfl rfl (.taken rfl rfl) ?_; refine K.loadOne rfl rfl rfl (.taken rfl rfl) ?_; refine K.lenX rfl SliceT.h rfl (.taken rfl rfl) ?_; refine K.gtr rfl rfl (decide_eq_false (by decide)) (.taken rfl rfl) ?_; refine kpt rfl rfl <| kas rfl <| RunK.nil <| LWP.condF rfl ?_; refine LWP.seq <| rgN <| kfa rfl rfl ?_; refine kl1 rfl rfl rfl <| K.lenX rfl SliceT.h rfl .plain ?_; refine K.gtr rfl rfl (decide_eq_false (by decide)) .plain <| kas rfl <| RunK.nil <| LWP.condF rfl ?_; refine LWP.skip ?_; refine LWP.seq <| LWP.seq <| rgN <| kfa rfl rfl ?_; refine kl1 rfl rfl rfl <| K.lenX rfl SliceT.h rfl .plain ?_; refine kmv rfl <| RunK.nil <| LWP.block ?_))
      refine LWP.loop (fun m σ => m = 0 ∧ σ = ⟨[(46, Ln .i64 0), (47, Ln .i64 0)], [], X⟩) 0 ⟨⟨[(46, Ln .i64 0), (47, Ln .i64 0)], [], X⟩, Le.of (by exact ⟨rfl, rfl, trivial⟩) (by exact trivial) (by exact rfl) (by exact rfl) (by repeat' (first | refine all_cons_true ?_ ?_ | rfl | exact bytes_inUse | exact vals_inUse | exact mid_inUse rfl)), rfl, rfl⟩ ?_
      rintro m σ ⟨rfl, rfl⟩
      (refine LWP.seq <| rgN <| klt rfl rfl (r := false) rfl <| RunK.nil <| LWP.seq <| LWP.condF rfl ?_; refine LWP.exit <| LWP.seq <| rgN <| kas rfl <| RunK.nil <| LWP.ret ?_)
      exact ⟨[_], ⟨rfl, trivial⟩, rfl⟩
  rw [if_neg (fun h => c5 h.1)]
  by_cases c7 : 8 < ex.length
  · rw [if_pos c7]
    (refine LWP.seq <| rgN <| K.box rfl rfl rfl .plain <| kas rfl <| RunK.nil <| LWP.seq <| LWP.block <| LWP.seq <| rgN <| kfa rfl rfl ?_; refine kl1 rfl rfl rfl <| kmv rfl <| K.leq rfl rfl (decide_eq_false (by omega)) .plain <| kmv rfl <| K.fieldAddr rfl rfl (.taken rfl rfl) ?_; refine K.loadOne rfl rfl rfl (.taken rfl rfl) ?_; refine K.gtr rfl rfl (decide_eq_false (by omega)) (.taken rfl rfl) ?_; refine kpf rfl rfl <| kmv rfl <| K.fieldAddr rfl rfl (.taken rfl rfl) ?_; refine K.loadOne rfl rfl rfl (.taken rfl rfl) ?_; refine K.lss rfl rfl (decide_eq_false (by omega)) (.taken rfl rfl) ?_; refine kpf rfl rfl <| kmv rfl <| K.fieldAddr rfl rfl (.taken rfl rfl) ?_; refine K.loadOne rfl rfl rfl (.taken rfl rfl) ?_; refine K.gtr rfl rfl (decide_eq_false (by omega)) (.taken rfl rfl) ?_; refine kpf rfl rfl <| kas rfl <| RunK.nil <| LWP.condF rfl ?_; refine LWP.seq <| rgN <| kfa rfl rfl ?_; refine kl1 rfl rfl rfl <| keq rfl rfl (beq_eq_false_iff_ne.2 c5) <| kmv rfl <| RunK.passed rfl rfl rfl <| RunK.passed rfl rfl rfl <| RunK.passed rfl rfl rfl <| RunK.passed rfl rfl rfl <| kpf rfl rfl <| kas rfl <| RunK.nil <| LWP.condF rfl ?_; refine LWP.seq <| rgN <| kfa rfl rfl ?_; refine kl1 rfl rfl rfl <| K.lenX rfl SliceT.h rfl .plain ?_; refine K.gtr rfl rfl (decide_eq_true (by omega)) .plain <| kas rfl <| RunK.nil <| LWP.condT rfl ?_; refine LWP.seq <| rgN <| kas rfl <| RunK.nil <| LWP.ret ?_)
    exact ⟨[_], ⟨rfl, trivial⟩, rfl⟩
  rw [if_neg c7]
  (refine LWP.seq <| rgN <| K.box rfl rfl rfl .plain <| kas rfl <| RunK.nil <| LWP.seq <| LWP.block <| LWP.seq <| rgN <| kfa rfl rfl ?_; refine kl1 rfl rfl rfl <| kmv rfl <| K.leq rfl rfl (decide_eq_false (by omega)) .plain <| kmv rfl <| K.fieldAddr rfl rfl (.taken rfl rfl) ?_; refine K.loadOne rfl rfl rfl (.taken rfl rfl) ?_; refine K.gtr rfl rfl (decide_eq_false (by omega)) (.taken rfl rfl) ?_; refine kpf rfl rfl <| kmv rfl <| K.fieldAddr rfl rfl (.taken rfl rfl) ?_; refine K.loadOne rfl rfl rfl (.taken rfl rfl) ?_; refine K.lss rfl rfl (decide_eq_false (by omega)) (.taken rfl rfl) ?_; refine kpf rfl rfl <| kmv rfl <| K.fieldAddr rfl rfl (.taken rfl rfl) ?_; refine K.loadOne rfl rfl rfl (.taken rfl rfl) ?_; refine K.gtr rfl rfl (decide_eq_false (by omega)) (.taken rfl rfl) ?_; refine kpf rfl rfl <| kas rfl <| RunK.nil <| LWP.condF rfl ?_; refine LWP.seq <| rgN <| kfa rfl rfl ?_; refine kl1 rfl rfl rfl <| keq rfl rfl (beq_eq_false_iff_ne.2 c5) <| kmv rfl <| RunK.passed rfl rfl rfl <| RunK.passed rfl rfl rfl <| RunK.passed rfl rfl rfl <| RunK.passed rfl rfl rfl <| kpf rfl rfl <| kas rfl <| RunK.nil <| LWP.condF rfl ?_; refine LWP.seq <| rgN <| kfa rfl rfl ?_; refine kl1 rfl rfl rfl <| K.lenX rfl SliceT.h rfl .plain ?_; refine K.gtr rfl rfl (decide_eq_false (by omega)) .plain <| kas rfl <| RunK.nil <| LWP.condF rfl ?_; refine LWP.skip ?_; refine LWP.seq <| LWP.seq <| rgN <| kfa rfl rfl ?_; refine kl1 rfl rfl rfl <| K.lenX rfl SliceT.h rfl .plain ?_; refine kmv rfl <| RunK.nil <| LWP.block ?_)
  refine LWP.loop (fun m σ => ∃ i : Nat, i ≤ ex.length ∧ m = ex.length - i ∧ firstX ex = firstX (ex.drop i) ∧ σ = ⟨[(45, Lx ead ex.length ecap), (46, Ln .i64 (ex.length : Nat)), (47, Ln .i64 (i : Nat))], [], X⟩) ex.length
    ⟨⟨[(45, Lx ead ex.length ecap), (46, Ln .i64 (ex.length : Nat)), (47, Ln .i64 (0 : Nat))], [], X⟩, Le.of (by exact ⟨rfl, rfl, rfl, trivial⟩) (by exact trivial) (by exact rfl) (by exact rfl) (by repeat' (first | refine all_cons_true ?_ ?_ | rfl | exact bytes_inUse | exact vals_inUse | exact mid_inUse rfl)), 0, by omega, by omega, rfl, rfl⟩ ?_
  rintro m σ ⟨i, hi, rfl, hpre, rfl⟩
  by_cases hlt : i < ex.length
  case neg =>
    rw [hpre, List.drop_eq_nil_of_le (by omega)]
    (refine LWP.seq <| rgN <| klt rfl rfl (decide_eq_false (by omega)) <| RunK.nil <| LWP.seq <| LWP.condF rfl ?_; refine LWP.exit <| LWP.seq <| rgN <| kas rfl <| RunK.nil <| LWP.ret ?_)
    exact ⟨[_], ⟨rfl, trivial⟩, rfl⟩
  obtain ⟨c, hc⟩ : ∃ c, ex[i]? = some c := ⟨_, List.getElem?_eq_getElem hlt⟩
  obtain ⟨eb, eo, earr, eel, efr, vad, vcap, rfl, hEX, hec, hI⟩ := hE.get hc
  have hio : eo + Int.toNat (i : Int) * 1 = eo + i * 1 := by simp
  have hG := gEncode' X c vad vcap hI (h2 c (List.mem_of_getElem? hc))
  rw [drop_at hc, firstX_cons] at hpre
  by_cases he : encErr c = 0
  · rw [if_pos he] at hpre
    rw [he] at hG
    have hadd : IntKind.i64.wrap (((i : Nat) : Int) + 1) = ((i + 1 : Nat) : Int) := by rw [wrap_i64 (by omega)]; omega
    (refine LWP.seq <| rgN <| klt rfl rfl (decide_eq_true (by omega)) <| RunK.nil <| LWP.seq <| LWP.condT rfl ?_; refine LWP.skip ?_; refine LWP.seq <| LWP.block <| LWP.seq <| rgN <| K.indexX rfl rfl SliceT.h (by omega) hio .plain <| K.loadX rfl hEX rfl hec .plain <| kas rfl <| RunK.nil <| LWP.seq <| rgN <| kmv rfl <| kca rfl rfl hG <| kmv rfl <| kex rfl rfl ?_; refine kex rfl rfl <| kas rfl <| kas rfl <| RunK.nil <| LWP.seq <| rgN <| kmv rfl <| kne rfl rfl (r := false) rfl <| RunK.nil <| LWP.condF rfl ?_; refine LWP.skip ?_; refine rgN <| kad rfl rfl hadd <| kmv rfl <| RunK.nil ?_)
    exact ⟨_, ⟨[(45, Lx (some ⟨eb, eo, none⟩) ex.length ecap), (46, Ln .i64 (ex.length : Nat)), (47, Ln .i64 (i + 1 : Nat))], [], X⟩, by omega, Le.of (by exact ⟨rfl, rfl, rfl, trivial⟩) (by exact trivial) (by exact rfl) (by exact rfl) (by repeat' (first | refine all_cons_true ?_ ?_ | rfl | exact bytes_inUse | exact vals_inUse | exact mid_inUse rfl)), i + 1, by omega, rfl, hpre, rfl⟩
  · rw [if_neg he] at hpre
    rw [hpre]
    have hne : (encErr c != 0) = true := by rw [bne_iff_ne]; exact he
    generalize encErr c = ce at *
    (refine LWP.seq <| rgN <| klt rfl rfl (decide_eq_true (by omega)) <| RunK.nil <| LWP.seq <| LWP.condT rfl ?_; refine LWP.skip ?_; refine LWP.seq <| LWP.block <| LWP.seq <| rgN <| K.indexX rfl rfl SliceT.h (by omega) hio .plain <| K.loadX rfl hEX rfl hec .plain <| kas rfl <| RunK.nil <| LWP.seq <| rgN <| kmv rfl <| kca rfl rfl hG <| kmv rfl <| kex rfl rfl ?_; refine kex rfl rfl <| kas rfl <| kas rfl <| RunK.nil <| LWP.seq <| rgN <| kmv rfl <| kne rfl rfl hne <| RunK.nil <| LWP.condT rfl ?_; refine LWP.seq <| rgN <| kmv rfl <| kas rfl <| RunK.nil <| LWP.ret ?_)
    exact ⟨[_], ⟨rfl, trivial⟩, rfl⟩
set_option maxHeartbeats 3200000 in
theorem kCheck (p : Pg) (ad : Option Addr) (cap : Nat) (hin : RulesIn X ad p.rs) (hbig : p.rs.length < 4611686018427387904) (hsz : sizeR p.rs) : PSpec Tryz.prog X 12 [LPg p.va p.vb ad p.rs.length cap] (Ln .i64 (chkP p)) := by
  obtain ⟨va, vb, rs⟩ := p
  simp only at hin hbig hsz ⊢
  have v1 := kIsVersion X va
  have v2 := kIsVersion X vb
  refine PSpec.intro Tryz.func12 rfl (by kernel_rfl) rfl rfl ?_
  intro C
  cases q1 : verOk va with
  | false =>
    rw [q1] at v1
    rw [chkP_bad (by simp only; rw [q1, Bool.false_and]; decide)]
    (refine LWP.seq <| rgN <| K.box rfl rfl rfl .plain <| kas rfl <| RunK.nil <| LWP.seq <| LWP.seq <| rgN <| kfa rfl rfl ?_; refine kl1 rfl rfl rfl <| kca rfl rfl v1 <| K.not rfl rfl .plain <| kmv rfl <| RunK.passed rfl rfl rfl <| RunK.passed rfl rfl rfl <| RunK.passed rfl rfl rfl <| RunK.passed rfl rfl rfl <| kpt rfl rfl <| RunK.nil <| LWP.condT rfl ?_; refine LWP.seq <| rgN <| kas rfl <| RunK.nil <| LWP.ret ?_)
    exact ⟨[_], ⟨rfl, trivial⟩, rfl⟩
  | true =>
  rw [q1] at v1
  cases q2 : verOk vb with
  | false =>
    rw [q2] at v2
    rw [chkP_bad (by simp only; rw [q2, Bool.and_false]; decide)]
    (refine LWP.seq <| rgN <| K.box rfl rfl rfl .plain <| kas rfl <| RunK.nil <| LWP.seq <| LWP.seq <| rgN <| kfa rfl rfl ?_; refine kl1 rfl rfl rfl <| kca rfl rfl v1 <| K.not rfl rfl .plain <| kmv rfl <| K.fieldAddr rfl rfl (.taken rfl rfl) ?_; refine K.loadOne rfl rfl rfl (.taken rfl rfl) ?_; refine gca rfl rfl v2 rfl rfl <| K.not rfl rfl (.taken rfl rfl) ?_; refine kpf rfl rfl <| RunK.nil <| LWP.condT rfl ?_; refine LWP.seq <| rgN <| kas rfl <| RunK.nil <| LWP.ret ?_)
    exact ⟨[_], ⟨rfl, trivial⟩, rfl⟩
  | true =>
  rw [q2] at v2
  rw [chkP_good (by simp only; rw [q1, q2]; rfl)]
  (refine LWP.seq <| rgN <| K.box rfl rfl rfl .plain <| kas rfl <| RunK.nil <| LWP.seq <| LWP.seq <| rgN <| kfa rfl rfl ?_; refine kl1 rfl rfl rfl <| kca rfl rfl v1 <| K.not rfl rfl .plain <| kmv rfl <| K.fieldAddr rfl rfl (.taken rfl rfl) ?_; refine K.loadOne rfl rfl rfl (.taken rfl rfl) ?_; refine gca rfl rfl v2 rfl rfl <| K.not rfl rfl (.taken rfl rfl) ?_; refine kpf rfl rfl <| RunK.nil <| LWP.condF rfl ?_; refine LWP.skip ?_; refine LWP.seq <| rgN <| kas rfl <| RunK.nil <| LWP.seq <| LWP.seq <| rgN <| kfa rfl rfl ?_; refine kl1 rfl rfl rfl <| K.lenX rfl SliceT.h rfl .plain ?_; refine kmv rfl <| RunK.nil <| LWP.block ?_)
  simp only
  refine LWP.loop (fun m σ => ∃ i : Nat, i ≤ rs.length ∧ m = rs.length - i ∧ chkRs 0 rs = chkRs (lastR rs i) (rs.drop i) ∧ 0 ≤ lastR rs i ∧ σ = ⟨[(3, Ln .i64 (lastR rs i)), (18, Lx ad rs.length cap), (19, Ln .i64 (rs.length : Nat)), (20, Ln .i64 (i : Nat))], [], X⟩) rs.length
    ⟨⟨[(3, Ln .i64 (lastR rs 0)), (18, Lx ad rs.length cap), (19, Ln .i64 (rs.length : Nat)), (20, Ln .i64 (0 : Nat))], [], X⟩, Le.of (by exact ⟨rfl, rfl, rfl, rfl, trivial⟩) (by exact trivial) (by exact rfl) (by exact rfl) (by repeat' (first | refine all_cons_true ?_ ?_ | rfl | exact bytes_inUse | exact vals_inUse | exact mid_inUse rfl)), 0, by omega, by omega, rfl, Int.le_refl 0, rfl⟩ ?_
  rintro m σ ⟨i, hi, rfl, hpre, hlast, rfl⟩
  by_cases hlt : i < rs.length
  case neg =>
    rw [hpre, List.drop_eq_nil_of_le (by omega)]
    (refine LWP.seq <| rgN <| klt rfl rfl (decide_eq_false (by omega)) <| RunK.nil <| LWP.seq <| LWP.condF rfl ?_; refine LWP.exit <| LWP.seq <| rgN <| kas rfl <| RunK.nil <| LWP.ret ?_)
    exact ⟨[_], ⟨rfl, trivial⟩, rfl⟩
  obtain ⟨r, hr⟩ : ∃ r, rs[i]? = some r := ⟨_, List.getElem?_eq_getElem hlt⟩
  obtain ⟨blk, off, arr, el, fr, ead, ecap, rfl, hX, hsiz, hcs, g1, g2, g3, hE⟩ := hin.get hr
  have hio : off + Int.toNat (i : Int) * 3 = off + i * 3 := by simp
  obtain ⟨hz1, hz2⟩ := hsz r (List.mem_of_getElem? hr)
  have hR := kCheckRule X r ead ecap hE (by omega) hz2 (lastR rs i) hlast
  rw [drop_at hr, chkRs_cons] at hpre
  by_cases he : chkR r (lastR rs i) = 0
  · rw [if_pos he] at hpre
    have hgt := (chkR_zero he).2.2.1
    rw [he] at hR
    have hnl := lastR_at hr
    have hadd : IntKind.i64.wrap (((i : Nat) : Int) + 1) = ((i + 1 : Nat) : Int) := by rw [wrap_i64 (by omega)]; omega
    (refine LWP.seq <| rgN <| klt rfl rfl (decide_eq_true (by omega)) <| RunK.nil <| LWP.seq <| LWP.condT rfl ?_; refine LWP.skip ?_; refine LWP.seq <| LWP.block <| LWP.seq <| rgN <| K.indexX rfl rfl SliceT.h (by omega) hio .plain <| K.loadXagg rfl hX (by kernel_rfl) hsiz hcs .plain <| K.alloc rfl .plain ?_; refine K.storeAll rfl rfl rfl rfl rfl rfl .plain ?_; refine RunK.nil <| LWP.seq <| LWP.seq <| rgN <| K.loadAll rfl rfl rfl .plain ?_; refine kmv rfl <| kca rfl rfl hR <| kas rfl <| RunK.nil <| LWP.seq <| rgN <| kmv rfl <| kne rfl rfl (r := false) rfl <| RunK.nil <| LWP.condF rfl ?_; refine LWP.skip ?_; refine rgN <| kfa rfl rfl ?_; refine kl1 rfl rfl rfl <| kas rfl <| RunK.nil <| rgN <| kad rfl rfl hadd <| kmv rfl <| RunK.nil ?_)
    rw [← hnl] at hpre hgt ⊢
    exact ⟨_, ⟨[(3, Ln .i64 (lastR rs (i + 1))), (18, Lx (some ⟨blk, off, none⟩) rs.length cap), (19, Ln .i64 (rs.length : Nat)), (20, Ln .i64 (i + 1 : Nat))], [], X⟩, by omega, Le.of (by exact ⟨rfl, rfl, rfl, rfl, trivial⟩) (by exact trivial) (by exact rfl) (by exact rfl) (by repeat' (first | refine all_cons_true ?_ ?_ | rfl | exact bytes_inUse | exact vals_inUse | exact mid_inUse rfl)), i + 1, by omega, rfl, hpre, by omega, rfl⟩
  · rw [if_neg he] at hpre
    rw [hpre]
    have hne : (chkR r (lastR rs i) != 0) = true := by rw [bne_iff_ne]; exact he
    generalize chkR r (lastR rs i) = ce at *
    (refine LWP.seq <| rgN <| klt rfl rfl (decide_eq_true (by omega)) <| RunK.nil <| LWP.seq <| LWP.condT rfl ?_; refine LWP.skip ?_; refine LWP.seq <| LWP.block <| LWP.seq <| rgN <| K.indexX rfl rfl SliceT.h (by omega) hio .plain <| K.loadXagg rfl hX (by kernel_rfl) hsiz hcs .plain <| K.alloc rfl .plain ?_; refine K.storeAll rfl rfl rfl rfl rfl rfl .plain ?_; refine RunK.nil <| LWP.seq <| LWP.seq <| rgN <| K.loadAll rfl rfl rfl .plain ?_; refine kmv rfl <| kca rfl rfl hR <| kas rfl <| RunK.nil <| LWP.seq <| rgN <| kmv rfl <| kne rfl rfl hne <| RunK.nil <| LWP.condT rfl ?_; refine LWP.seq <| rgN <| kmv rfl <| kas rfl <| RunK.nil <| LWP.ret ?_)
    exact ⟨[_], ⟨rfl, trivial⟩, rfl⟩
end Go.Proofs.YtamplgnbbanamaaGreatDoor
end
