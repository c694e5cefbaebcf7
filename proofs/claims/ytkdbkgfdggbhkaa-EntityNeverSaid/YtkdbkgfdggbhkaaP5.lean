/- A piece of a proof over this program: contracts of its functions, and a logic to prove them by. -/
import Derived.Test.YtkdbkgfdggbhkaaP2
import Derived.Test.YtkdbkgfdggbhkaaP3
import Derived.Test.YtkdbkgfdggbhkaaP4
section
namespace Go.Proofs.Ytkdbkgfdggbhkaa
open Go Go.Lg
set_option maxRecDepth 100000
def alN (l : List Ei) (h : Nat) : Nat := if aliveB l h = true then h % 4294967296 else 0
theorem alP {l : List Ei} {h id q : Nat} (h1 : h % 4294967296 = id) (h2 : h / 4294967296 = q) : aliveB l h = aliveP l id q := by unfold aliveB; rw [h1, h2]
theorem alive_at {l : List Ei} {h : Nat} (ha : aliveB l h = true) : ∃ (i gen : Nat), h % 4294967296 = i + 1 ∧ h / 4294967296 = gen ∧ l[i]? = some (gen, 1) := by
  obtain ⟨id, hid⟩ : ∃ id, h % 4294967296 = id := ⟨_, rfl⟩
  obtain ⟨q, hq⟩ : ∃ q, h / 4294967296 = q := ⟨_, rfl⟩
  rw [alP hid hq] at ha
  unfold aliveP whoE at ha
  by_cases e : id = 0
  · rw [if_pos e] at ha; cases ha
  · rw [if_neg e] at ha
    cases hx : l[id - 1]? with
    | none => rw [hx] at ha; cases ha
    | some x =>
      rw [hx] at ha
      obtain ⟨gen, st⟩ := x
      simp only [livE, Bool.and_eq_true, beq_iff_eq] at ha
      obtain ⟨rfl, rfl⟩ := ha
      exact ⟨id - 1, gen, by omega, hq, hx⟩
variable (X : Nat → Option Obj)
set_option maxHeartbeats 6400000 in
theorem rAlive (g : Nat) (l : List Ei) (h : Nat) (hl : l.length ≤ 256) (hh : h < 18446744073709551616) (hgen : ∀ x ∈ l, x.1 < 4294967296) : PSpec Try.prog X 26 [rI g l, Ln .u64 (h : Nat)] (Ln .i64 (alN l h : Nat)) := by
  refine PSpec.intro Try.func26 rfl (by kernel_rfl) rfl rfl ?_
  intro C
  obtain ⟨id, hid⟩ : ∃ id, h % 4294967296 = id := ⟨_, rfl⟩
  obtain ⟨q, hq⟩ : ∃ q, h / 4294967296 = q := ⟨_, rfl⟩
  have hmod : (((h : Nat) : Int)).tmod 4294967296 = ((id : Nat) : Int) := by rw [← hid]; rfl
  have hquo : IntKind.u64.wrap ((((h : Nat) : Int)).tdiv 4294967296) = ((q : Nat) : Int) := by
    rw [show (((h : Nat) : Int)).tdiv 4294967296 = ((h / 4294967296 : Nat) : Int) from rfl, hq]
    exact wrap_u64 (by omega)
  have hn := ref_n (g := g) hl
  have hnw : IntKind.u64.wrap ((l.length : Nat) : Int) = ((l.length : Nat) : Int) := wrap_u64 (by omega)
  unfold alN
  rw [alP hid hq, hid]
  by_cases c0 : id = 0
  · rw [if_neg (by unfold aliveP whoE; rw [if_pos c0]; simp)]
    (refine LWP.seq <| LWP.region (by kernel_rfl) <| K.box rfl (refC_solid g l) rfl .plain <| kas rfl <| RunK.nil <| LWP.seq <| LWP.region (by kernel_rfl) <| kmv rfl <| K.rem rfl rfl (by decide) hmod .plain <| kas rfl <| RunK.nil <| LWP.seq <| LWP.seq <| LWP.region (by kernel_rfl) ?_; refine kmv rfl <| klt rfl rfl (decide_eq_true (by omega)) <| kmv rfl <| RunK.passed rfl rfl rfl <| RunK.passed rfl rfl rfl <| RunK.passed rfl rfl rfl <| RunK.passed rfl rfl rfl <| RunK.passed rfl rfl rfl <| kpt rfl rfl <| kmv rfl <| RunK.passed rfl rfl rfl <| RunK.passed rfl rfl rfl <| RunK.passed rfl rfl rfl <| RunK.passed rfl rfl rfl ?_; refine RunK.passed rfl rfl rfl <| RunK.passed rfl rfl rfl <| kpt rfl rfl <| kmv rfl <| RunK.passed rfl rfl rfl <| RunK.passed rfl rfl rfl <| RunK.passed rfl rfl rfl <| RunK.passed rfl rfl rfl <| RunK.passed rfl rfl rfl <| RunK.passed rfl rfl rfl <| RunK.passed rfl rfl rfl <| RunK.passed rfl rfl rfl <| RunK.passed rfl rfl rfl <| kpt rfl rfl ?_; refine RunK.nil <| LWP.condT rfl ?_; refine LWP.seq <| LWP.region (by kernel_rfl) <| kas rfl <| RunK.nil <| LWP.ret ?_)
    exact ⟨[_], ⟨rfl, trivial⟩, rfl⟩
  by_cases c1 : l.length < id
  · rw [if_neg (by unfold aliveP whoE; rw [if_neg c0, List.getElem?_eq_none (by omega)]; simp)]
    (refine LWP.seq <| LWP.region (by kernel_rfl) <| K.box rfl (refC_solid g l) rfl .plain <| kas rfl <| RunK.nil <| LWP.seq <| LWP.region (by kernel_rfl) <| kmv rfl <| K.rem rfl rfl (by decide) hmod .plain <| kas rfl <| RunK.nil <| LWP.seq <| LWP.seq <| LWP.region (by kernel_rfl) ?_; refine kmv rfl <| klt rfl rfl (decide_eq_false (by omega)) <| kmv rfl <| gmv rfl rfl rfl <| K.fieldAddr rfl rfl (.taken rfl rfl) ?_; refine K.loadOne rfl rfl hn (.taken rfl rfl) ?_; refine K.conv rfl hnw (.taken rfl rfl) ?_; refine K.gtr rfl rfl (decide_eq_true (by omega)) (.taken rfl rfl) ?_; refine kpf rfl rfl <| kmv rfl <| RunK.passed rfl rfl rfl <| RunK.passed rfl rfl rfl <| RunK.passed rfl rfl rfl <| RunK.passed rfl rfl rfl <| RunK.passed rfl rfl rfl <| RunK.passed rfl rfl rfl <| kpt rfl rfl <| kmv rfl <| RunK.passed rfl rfl rfl <| RunK.passed rfl rfl rfl <| RunK.passed rfl rfl rfl <| RunK.passed rfl rfl rfl ?_; refine RunK.passed rfl rfl rfl <| RunK.passed rfl rfl rfl <| RunK.passed rfl rfl rfl <| RunK.passed rfl rfl rfl <| RunK.passed rfl rfl rfl <| kpt rfl rfl <| RunK.nil <| LWP.condT rfl ?_; refine LWP.seq <| LWP.region (by kernel_rfl) <| kas rfl <| RunK.nil <| LWP.ret ?_)
    exact ⟨[_], ⟨rfl, trivial⟩, rfl⟩
  obtain ⟨i, rfl⟩ : ∃ i, id = i + 1 := ⟨id - 1, by omega⟩
  obtain ⟨⟨gen, st⟩, hx⟩ : ∃ x, l[i]? = some x := ⟨_, List.getElem?_eq_getElem (by omega)⟩
  have hgb := hgen _ (List.mem_of_getElem? hx)
  have hio : 1 + Int.toNat ((i + 1 : Nat) : Int) * 3 = 1 + (i + 1) * 3 := by simp
  have hg := ref_gen (g := g) hx hl
  have hv := ref_liv (g := g) hx hl
  have hgw : IntKind.u64.wrap ((gen : Nat) : Int) = ((gen : Nat) : Int) := wrap_u64 (by have hgb : gen < 4294967296 := hgb; omega)
  have hP : aliveP l (i + 1) q = (st == 1 && gen == q) := by unfold aliveP; rw [who_suc, hx]; rfl
  rw [hP]
  by_cases c2 : st = 1
  case neg =>
    rw [show (st == 1) = false from beq_eq_false_iff_ne.2 c2, Bool.false_and, if_neg (by decide)]
    replace hv : ((refV g l).map CV.val)[1 + (i + 1) * 3 + 1]? = some (.val (.bool false)) := by rw [hv, show ((gen, st) : Ei).2 = st from rfl, show (st == 1) = false from beq_eq_false_iff_ne.2 c2]
    (refine LWP.seq <| LWP.region (by kernel_rfl) <| K.box rfl (refC_solid g l) rfl .plain <| kas rfl <| RunK.nil <| LWP.seq <| LWP.region (by kernel_rfl) <| kmv rfl <| K.rem rfl rfl (by decide) hmod .plain <| kas rfl <| RunK.nil <| LWP.seq <| LWP.seq <| LWP.region (by kernel_rfl) ?_; refine kmv rfl <| klt rfl rfl (decide_eq_false (by omega)) <| kmv rfl <| gmv rfl rfl rfl <| K.fieldAddr rfl rfl (.taken rfl rfl) ?_; refine K.loadOne rfl rfl hn (.taken rfl rfl) ?_; refine K.conv rfl hnw (.taken rfl rfl) ?_; refine K.gtr rfl rfl (decide_eq_false (by omega)) (.taken rfl rfl) ?_; refine kpf rfl rfl <| kmv rfl <| gmv rfl rfl rfl <| K.fieldAddr rfl rfl (.taken rfl rfl) ?_; refine K.indexArr rfl rfl (by omega) hio (.taken rfl rfl) ?_; refine K.fieldAddr rfl rfl (.taken rfl rfl) ?_; refine K.loadOne rfl rfl hv (.taken rfl rfl) ?_; refine K.not rfl rfl (.taken rfl rfl) ?_; refine kpf rfl rfl <| kmv rfl <| RunK.passed rfl rfl rfl <| RunK.passed rfl rfl rfl <| RunK.passed rfl rfl rfl <| RunK.passed rfl rfl rfl <| RunK.passed rfl rfl rfl <| RunK.passed rfl rfl rfl <| RunK.passed rfl rfl rfl <| RunK.passed rfl rfl rfl <| RunK.passed rfl rfl rfl <| kpt rfl rfl <| RunK.nil <| LWP.condT rfl ?_; refine LWP.seq <| LWP.region (by kernel_rfl) <| kas rfl <| RunK.nil <| LWP.ret ?_)
    exact ⟨[_], ⟨rfl, trivial⟩, rfl⟩
  subst c2
  replace hv : ((refV g l).map CV.val)[1 + (i + 1) * 3 + 1]? = some (.val (.bool true)) := hv
  by_cases c3 : gen = q
  · subst c3
    have hback : IntKind.i64.wrap ((i + 1 : Nat) : Int) = ((i + 1 : Nat) : Int) := wrap_i64 (by omega)
    rw [show ((1 : Nat) == 1 && gen == gen) = true by simp, if_pos rfl]
    ((refine LWP.seq <| LWP.region (by kernel_rfl) <| K.box rfl (refC_solid g l) rfl .plain <| kas rfl <| RunK.nil <| LWP.seq <| LWP.region (by kernel_rfl) <| kmv rfl <| K.rem rfl rfl (by decide) hmod .plain <| kas rfl <| RunK.nil <| LWP.seq <| LWP.seq <| LWP.region (by kernel_rfl) ?_; refine kmv rfl <| klt rfl rfl (decide_eq_false (by omega)) <| kmv rfl <| gmv rfl rfl rfl <| K.fieldAddr rfl rfl (.taken rfl rfl) ?_; refine K.loadOne rfl rfl hn (.taken rfl rfl) ?_; refine K.conv rfl hnw (.taken rfl rfl) ?_; refine K.gtr rfl rfl (decide_eq_false (by omega)) (.taken rfl rfl) ?_; refine kpf rfl rfl <| kmv rfl <| gmv rfl rfl rfl <| K.fieldAddr rfl rfl (.taken rfl rfl) ?_; refine K.indexArr rfl rfl (by omega) hio (.taken rfl rfl) ?_; refine K.fieldAddr rfl rfl (.taken rfl rfl) ?_; refine K.loadOne rfl rfl hv (.taken rfl rfl) ?_; refine K.not rfl rfl (.taken rfl rfl) ?_; refine kpf rfl rfl <| kmv rfl <| gmv rfl rfl rfl <| K.fieldAddr rfl rfl (.taken rfl rfl) ?_; refine K.indexArr rfl rfl (by omega) hio (.taken rfl rfl) ?_); (refine K.fieldAddr rfl rfl (.taken rfl rfl) ?_; refine K.loadOne rfl rfl hg (.taken rfl rfl) ?_; refine K.conv rfl hgw (.taken rfl rfl) ?_; refine gmv rfl rfl rfl <| K.quo rfl rfl (by decide) hquo (.taken rfl rfl) ?_; refine K.neq rfl rfl (r := false) (bne_eq_false_iff_eq.2 rfl) (.taken rfl rfl) ?_; refine kpf rfl rfl <| RunK.nil <| LWP.condF rfl ?_; refine LWP.skip ?_; refine LWP.seq <| LWP.region (by kernel_rfl) <| kmv rfl <| kcv rfl hback ?_; refine kas rfl <| RunK.nil <| LWP.ret ?_))
    exact ⟨[_], ⟨rfl, trivial⟩, rfl⟩
  · rw [show (gen == q) = false from beq_eq_false_iff_ne.2 c3, Bool.and_false, if_neg (by decide)]
    (refine LWP.seq <| LWP.region (by kernel_rfl) <| K.box rfl (refC_solid g l) rfl .plain <| kas rfl <| RunK.nil <| LWP.seq <| LWP.region (by kernel_rfl) <| kmv rfl <| K.rem rfl rfl (by decide) hmod .plain <| kas rfl <| RunK.nil <| LWP.seq <| LWP.seq <| LWP.region (by kernel_rfl) ?_; refine kmv rfl <| klt rfl rfl (decide_eq_false (by omega)) <| kmv rfl <| gmv rfl rfl rfl <| K.fieldAddr rfl rfl (.taken rfl rfl) ?_; refine K.loadOne rfl rfl hn (.taken rfl rfl) ?_; refine K.conv rfl hnw (.taken rfl rfl) ?_; refine K.gtr rfl rfl (decide_eq_false (by omega)) (.taken rfl rfl) ?_; refine kpf rfl rfl <| kmv rfl <| gmv rfl rfl rfl <| K.fieldAddr rfl rfl (.taken rfl rfl) ?_; refine K.indexArr rfl rfl (by omega) hio (.taken rfl rfl) ?_; refine K.fieldAddr rfl rfl (.taken rfl rfl) ?_; refine K.loadOne rfl rfl hv (.taken rfl rfl) ?_; refine K.not rfl rfl (.taken rfl rfl) ?_; refine kpf rfl rfl <| kmv rfl <| gmv rfl rfl rfl <| K.fieldAddr rfl rfl (.taken rfl rfl) ?_; refine K.indexArr rfl rfl (by omega) hio (.taken rfl rfl) ?_; refine K.fieldAddr rfl rfl (.taken rfl rfl) ?_; refine K.loadOne rfl rfl hg (.taken rfl rfl) ?_; refine K.conv rfl hgw (.taken rfl rfl) ?_; refine gmv rfl rfl rfl <| K.quo rfl rfl (by decide) hquo (.taken rfl rfl) ?_; refine K.neq rfl rfl (r := true) (bne_iff_ne.2 (by omega)) (.taken rfl rfl) ?_; refine kpf rfl rfl <| RunK.nil <| LWP.condT rfl ?_; refine LWP.seq <| LWP.region (by kernel_rfl) <| kas rfl <| RunK.nil <| LWP.ret ?_)
    exact ⟨[_], ⟨rfl, trivial⟩, rfl⟩
theorem rKill_no (g : Nat) (l : List Ei) (h : Nat) (hl : l.length ≤ 256) (hh : h < 18446744073709551616) (hgen : ∀ x ∈ l, x.1 < 4294967296) (ha : aliveB l h = false) : PSpec Try.prog X 20 [rI g l, Ln .u64 (h : Nat)] (.tup [.agg ((refV g l).map .val), Sb false]) := by
  have hA := rAlive X g l h hl hh hgen
  rw [show alN l h = 0 by unfold alN; rw [ha]; rfl] at hA
  refine PSpec.intro Try.func20 rfl (by kernel_rfl) rfl (rClosed2 g _ _ rfl) ?_
  intro C
  (refine LWP.seq <| LWP.region (by kernel_rfl) <| K.box rfl (refC_solid g l) rfl .plain <| K.alloc rfl .plain ?_; refine kas rfl <| RunK.nil <| LWP.seq <| LWP.region (by kernel_rfl) <| K.loadAll rfl rfl (refC_len hl).symm .plain ?_; refine kmv rfl <| kca rfl (rI_closed2 g l _) hA <| kas rfl <| RunK.nil <| LWP.seq <| LWP.seq <| LWP.region (by kernel_rfl) <| kmv rfl <| keq rfl rfl (r := true) rfl <| RunK.nil <| LWP.condT rfl ?_; refine LWP.seq <| LWP.region (by kernel_rfl) <| K.loadAll rfl rfl (refC_len hl).symm .plain ?_; refine K.storeAll rfl rfl rfl (refC_solid g l) (refC_len hl).symm ((refC_len hl).trans refZ_len.symm) .plain ?_; refine kas rfl <| RunK.nil <| LWP.ret ?_)
  exact ⟨[_, _], ⟨⟨_, _, rfl, rfl, rfl, .inl ⟨rfAgg hl, rfl⟩⟩, rfl, trivial⟩, rfl⟩
set_option maxHeartbeats 6400000 in
theorem rKill (g : Nat) (l : List Ei) (h : Nat) (hl : l.length ≤ 256) (hh : h < 18446744073709551616) (hgen : ∀ x ∈ l, x.1 < 4294967296) {i gen : Nat} (ha : aliveB l h = true) (hid : h % 4294967296 = i + 1) (hx : l[i]? = some (gen, 1)) : PSpec Try.prog X 20 [rI g l, Ln .u64 (h : Nat)] (.tup [.agg ((refV g (l.set i (killE g (gen, 1)))).map .val), Sb true]) := by
  have hA := rAlive X g l h hl hh hgen
  rw [show alN l h = i + 1 by unfold alN; rw [if_pos ha, hid]] at hA
  have hi := (List.getElem?_eq_some_iff.1 hx).1
  have hgb : gen < 4294967296 := hgen _ (List.mem_of_getElem? hx)
  have hio : 1 + Int.toNat ((i + 1 : Nat) : Int) * 3 = 1 + (i + 1) * 3 := by simp
  have hset : ((refV g l).map CV.val).set (1 + (i + 1) * 3 + 1) (.val (.bool false)) = (refV g (l.set i (gen, 0))).map CV.val := ref_set (k := 1) (by decide) hx hl rfl
  have hl2 : (l.set i (gen, 0)).length ≤ 256 := by rw [List.length_set]; exact hl
  have hx2 : (l.set i (gen, 0))[i]? = some (gen, 0) := List.getElem?_set_self hi
  have hg2 := ref_gen (g := g) hx2 hl2
  have hroom : Nat.blt (1 + (i + 1) * 3 + 1) ((refV g l).map CV.val).length = true := by rw [refC_len hl, Nat.blt_eq]; omega
  have hroom0 : Nat.blt (1 + (i + 1) * 3) ((refV g (l.set i (gen, 0))).map CV.val).length = true := by rw [refC_len hl2, Nat.blt_eq]; omega
  have hroom2 : Nat.blt (1 + (i + 1) * 3 + 2) ((refV g (l.set i (gen, 0))).map CV.val).length = true := by rw [refC_len hl2, Nat.blt_eq]; omega
  refine PSpec.intro Try.func20 rfl (by kernel_rfl) rfl (rClosed2 g _ _ rfl) ?_
  intro C
  by_cases e : gen = g
  · have hset2 : ((refV g (l.set i (gen, 0))).map CV.val).set (1 + (i + 1) * 3 + 2) (.val (.bool true)) = (refV g (l.set i (killE g (gen, 1)))).map CV.val := by
      rw [ref_set (k := 2) (v := .bool true) (y := (gen, 2)) (by decide) hx2 hl2 rfl, List.set_set, show killE g (gen, 1) = (gen, 2) from if_pos e]
    have hl3 : (l.set i (killE g (gen, 1))).length ≤ 256 := by rw [List.length_set]; exact hl
    (refine LWP.seq <| LWP.region (by kernel_rfl) <| K.box rfl (refC_solid g l) rfl .plain <| K.alloc rfl .plain ?_; refine kas rfl <| RunK.nil <| LWP.seq <| LWP.region (by kernel_rfl) <| K.loadAll rfl rfl (refC_len hl).symm .plain ?_; refine kmv rfl <| kca rfl (rI_closed2 g l _) hA <| kas rfl <| RunK.nil <| LWP.seq <| LWP.seq <| LWP.region (by kernel_rfl) <| kmv rfl <| keq rfl rfl (r := false) (beq_eq_false_iff_ne.2 (by omega)) <| RunK.nil <| LWP.condF rfl ?_; refine LWP.skip ?_; refine LWP.seq <| LWP.region (by kernel_rfl) <| kmv rfl <| kfa rfl rfl ?_; refine K.indexArr rfl rfl (by omega) hio .plain ?_; refine kfa rfl rfl ?_; refine K.storeOne rfl rfl rfl rfl hroom hset .plain <| RunK.nil <| LWP.seq <| LWP.seq <| LWP.draws mixed (by kernel_rfl) <| kmv rfl <| kfa rfl rfl ?_; refine K.indexArr rfl rfl (by omega) hio .plain ?_; refine kfa rfl rfl ?_; refine kl1 rfl rfl hg2 <| kfa rfl rfl ?_; refine kl1 rfl rfl (ref_g g _) <| keq rfl rfl (r := true) (beq_iff_eq.2 (by omega)) <| RunK.nil <| And.intro (by kernel_rfl) ?_; refine LWP.condT rfl ?_; refine LWP.region (by kernel_rfl) <| kmv rfl <| kfa rfl rfl ?_; refine K.indexArr rfl rfl (by omega) hio .plain ?_; refine kfa rfl rfl ?_; refine K.storeOne rfl rfl rfl rfl hroom2 hset2 .plain <| RunK.nil <| LWP.seq <| LWP.region (by kernel_rfl) <| K.loadAll rfl rfl (refC_len hl3).symm .plain ?_; refine K.storeAll rfl rfl rfl (refC_solid g _) (refC_len hl3).symm ((refC_len hl3).trans refZ_len.symm) .plain ?_; refine kas rfl <| RunK.nil <| LWP.ret ?_)
    exact ⟨[_, _], ⟨⟨_, _, rfl, rfl, rfl, .inl ⟨rfAgg hl3, rfl⟩⟩, rfl, trivial⟩, rfl⟩
  · have hadd : IntKind.i64.wrap (((gen : Nat) : Int) + 1) = ((gen + 1 : Nat) : Int) := by rw [wrap_i64 (by omega)]; omega
    have hset2 : ((refV g (l.set i (gen, 0))).map CV.val).set (1 + (i + 1) * 3) (.val (.int .i64 (gen + 1 : Nat))) = (refV g (l.set i (killE g (gen, 1)))).map CV.val := by
      rw [show 1 + (i + 1) * 3 = 1 + (i + 1) * 3 + 0 from rfl, ref_set (k := 0) (v := .int .i64 (gen + 1 : Nat)) (y := (gen + 1, 0)) (by decide) hx2 hl2 rfl, List.set_set, show killE g (gen, 1) = (gen + 1, 0) from if_neg e]
    have hl3 : (l.set i (killE g (gen, 1))).length ≤ 256 := by rw [List.length_set]; exact hl
    ((refine LWP.seq <| LWP.region (by kernel_rfl) <| K.box rfl (refC_solid g l) rfl .plain <| K.alloc rfl .plain ?_; refine kas rfl <| RunK.nil <| LWP.seq <| LWP.region (by kernel_rfl) <| K.loadAll rfl rfl (refC_len hl).symm .plain ?_; refine kmv rfl <| kca rfl (rI_closed2 g l _) hA <| kas rfl <| RunK.nil <| LWP.seq <| LWP.seq <| LWP.region (by kernel_rfl) <| kmv rfl <| keq rfl rfl (r := false) (beq_eq_false_iff_ne.2 (by omega)) <| RunK.nil <| LWP.condF rfl ?_; refine LWP.skip ?_; refine LWP.seq <| LWP.region (by kernel_rfl) <| kmv rfl <| kfa rfl rfl ?_; refine K.indexArr rfl rfl (by omega) hio .plain ?_; refine kfa rfl rfl ?_; refine K.storeOne rfl rfl rfl rfl hroom hset .plain <| RunK.nil <| LWP.seq <| LWP.seq <| LWP.draws mixed (by kernel_rfl) <| kmv rfl <| kfa rfl rfl ?_; refine K.indexArr rfl rfl (by omega) hio .plain ?_; refine kfa rfl rfl ?_; refine kl1 rfl rfl hg2 <| kfa rfl rfl ?_; refine kl1 rfl rfl (ref_g g _) <| keq rfl rfl (r := false) (beq_eq_false_iff_ne.2 (by omega)) <| RunK.nil <| And.intro (by kernel_rfl) ?_); (refine LWP.condF rfl ?_; refine LWP.region (by kernel_rfl) <| kmv rfl <| kfa rfl rfl ?_; refine K.indexArr rfl rfl (by omega) hio .plain ?_; refine kfa rfl rfl ?_; refine kl1 rfl rfl hg2 <| kad rfl rfl hadd <| kfa rfl rfl ?_; refine K.indexArr rfl rfl (by omega) hio .plain ?_; refine kfa rfl rfl ?_; refine K.storeOne rfl rfl rfl rfl hroom0 hset2 .plain <| RunK.nil <| LWP.seq <| LWP.region (by kernel_rfl) <| K.loadAll rfl rfl (refC_len hl3).symm .plain ?_; refine K.storeAll rfl rfl rfl (refC_solid g _) (refC_len hl3).symm ((refC_len hl3).trans refZ_len.symm) .plain ?_; refine kas rfl <| RunK.nil <| LWP.ret ?_))
    exact ⟨[_, _], ⟨⟨_, _, rfl, rfl, rfl, .inl ⟨rfAgg hl3, rfl⟩⟩, rfl, trivial⟩, rfl⟩
theorem freE_snoc {l : List Ei} {j : Nat} {x : Ei} (hx : l[j]? = some x) : freE (l.take (j + 1)) = freE (l.take j) + if freeE x = true then 1 else 0 := by
  unfold freE
  rw [tk_snoc hx, List.countP_append, List.countP_cons, List.countP_nil, Nat.zero_add]
theorem freE_le (l : List Ei) (j : Nat) : freE (l.take j) ≤ j := Nat.le_trans List.countP_le_length (by rw [List.length_take]; omega)
set_option maxHeartbeats 6400000 in
theorem rFree (g : Nat) (l : List Ei) (hl : l.length ≤ 256) (hs : ∀ x ∈ l, x.2 ≤ 2) : PSpec Try.prog X 25 [rI g l] (Ln .i64 (freE l : Nat)) := by
  refine PSpec.intro Try.func25 rfl (by kernel_rfl) rfl rfl ?_
  intro C
  (refine LWP.seq <| LWP.region (by kernel_rfl) <| K.box rfl (refC_solid g l) rfl .plain <| kas rfl <| RunK.nil <| LWP.seq <| LWP.region (by kernel_rfl) <| kas rfl <| RunK.nil <| LWP.seq <| LWP.seq <| LWP.region (by kernel_rfl) <| kas rfl <| RunK.nil ?_; refine LWP.block ?_)
  refine LWP.loop (fun m σ => ∃ j : Nat, j ≤ l.length ∧ m = l.length - j ∧ σ = ⟨[(1, Lp 1), (3, Ln .i64 (freE (l.take j) : Nat)), (4, Ln .i64 (j + 1 : Nat))], [rfB 1 g l], X⟩) l.length
    ⟨⟨[(1, Lp 1), (3, Ln .i64 (0 : Nat)), (4, Ln .i64 (0 + 1 : Nat))], [rfB 1 g l], X⟩, Le.of (by exact ⟨rfl, rfl, rfl, trivial⟩) (by exact ⟨rfl, trivial⟩) (by exact rfl) (by exact rfl) (by repeat' (first | refine all_cons_true ?_ ?_ | rfl | exact bytes_inUse | exact vals_inUse | exact mid_inUse rfl)), 0, by omega, by omega, rfl⟩ ?_
  rintro m σ ⟨j, hj, rfl, rfl⟩
  have hn := ref_n (g := g) hl
  by_cases hlt : j < l.length
  case neg =>
    have e : j = l.length := by omega
    subst e
    rw [List.take_length]
    (refine LWP.seq <| LWP.seq <| LWP.region (by kernel_rfl) <| kmv rfl <| kfa rfl rfl ?_; refine kl1 rfl rfl hn <| K.leq rfl rfl (decide_eq_false (by omega)) .plain <| RunK.nil <| LWP.condF rfl ?_; refine LWP.exit <| LWP.seq <| LWP.region (by kernel_rfl) <| kmv rfl <| kas rfl <| RunK.nil <| LWP.ret ?_)
    exact ⟨[_], ⟨rfl, trivial⟩, rfl⟩
  obtain ⟨⟨gen, st⟩, hx⟩ : ∃ x, l[j]? = some x := ⟨_, List.getElem?_eq_getElem hlt⟩
  have hst : st ≤ 2 := hs _ (List.mem_of_getElem? hx)
  have hio : 1 + Int.toNat ((j + 1 : Nat) : Int) * 3 = 1 + (j + 1) * 3 := by simp
  have hadd : IntKind.i64.wrap (((j + 1 : Nat) : Int) + 1) = ((j + 1 + 1 : Nat) : Int) := by rw [wrap_i64 (by omega)]; omega
  have hsn := freE_snoc hx
  have hfl := freE_le l j
  have h1 := ref_liv (g := g) hx hl
  have h2 := ref_ret (g := g) hx hl
  have hst2 : ∀ q : Nat, freE (l.take (j + 1)) = q → (⟨[(1, Lp 1), (3, Ln .i64 (q : Nat)), (4, Ln .i64 (j + 1 + 1 : Nat))], [rfB 1 g l], X⟩ : St) = ⟨[(1, Lp 1), (3, Ln .i64 (freE (l.take (j + 1)) : Nat)), (4, Ln .i64 (j + 1 + 1 : Nat))], [rfB 1 g l], X⟩ := fun q h => by rw [h]
  generalize freE (l.take j) = c at *
  rcases (show st = 0 ∨ st = 1 ∨ st = 2 by omega) with rfl | rfl | rfl
  · replace h1 : ((refV g l).map CV.val)[1 + (j + 1) * 3 + 1]? = some (.val (.bool false)) := h1
    replace h2 : ((refV g l).map CV.val)[1 + (j + 1) * 3 + 2]? = some (.val (.bool false)) := h2
    have haddc : IntKind.i64.wrap (((c : Nat) : Int) + 1) = ((c + 1 : Nat) : Int) := by rw [wrap_i64 (by omega)]; omega
    (refine LWP.seq <| LWP.seq <| LWP.region (by kernel_rfl) <| kmv rfl <| kfa rfl rfl ?_; refine kl1 rfl rfl hn <| K.leq rfl rfl (decide_eq_true (by omega)) .plain <| RunK.nil <| LWP.condT rfl ?_; refine LWP.skip ?_; refine LWP.seq <| LWP.block <| LWP.seq <| LWP.region (by kernel_rfl) <| kmv rfl <| kfa rfl rfl ?_; refine K.indexArr rfl rfl (by omega) hio .plain ?_; refine kfa rfl rfl ?_; refine kl1 rfl rfl h1 <| K.not rfl rfl .plain <| kmv rfl <| gmv rfl rfl rfl <| K.fieldAddr rfl rfl (.taken rfl rfl) ?_; refine K.indexArr rfl rfl (by omega) hio (.taken rfl rfl) ?_; refine K.fieldAddr rfl rfl (.taken rfl rfl) ?_; refine K.loadOne rfl rfl h2 (.taken rfl rfl) ?_; refine K.not rfl rfl (.taken rfl rfl) ?_; refine kpt rfl rfl <| RunK.nil <| LWP.condT rfl ?_; refine LWP.region (by kernel_rfl) <| kmv rfl <| kad rfl rfl haddc <| kas rfl <| RunK.nil <| LWP.region (by kernel_rfl) <| kmv rfl <| kad rfl rfl hadd <| kas rfl <| RunK.nil ?_)
    exact ⟨_, ⟨[(1, Lp 1), (3, Ln .i64 (c + 1 : Nat)), (4, Ln .i64 (j + 1 + 1 : Nat))], [rfB 1 g l], X⟩, by omega, Le.of (by exact ⟨rfl, rfl, rfl, trivial⟩) (by exact ⟨rfl, trivial⟩) (by exact rfl) (by exact rfl) (by repeat' (first | refine all_cons_true ?_ ?_ | rfl | exact bytes_inUse | exact vals_inUse | exact mid_inUse rfl)), j + 1, by omega, rfl, hst2 _ hsn⟩
  · replace h1 : ((refV g l).map CV.val)[1 + (j + 1) * 3 + 1]? = some (.val (.bool true)) := h1
    (refine LWP.seq <| LWP.seq <| LWP.region (by kernel_rfl) <| kmv rfl <| kfa rfl rfl ?_; refine kl1 rfl rfl hn <| K.leq rfl rfl (decide_eq_true (by omega)) .plain <| RunK.nil <| LWP.condT rfl ?_; refine LWP.skip ?_; refine LWP.seq <| LWP.block <| LWP.seq <| LWP.region (by kernel_rfl) <| kmv rfl <| kfa rfl rfl ?_; refine K.indexArr rfl rfl (by omega) hio .plain ?_; refine kfa rfl rfl ?_; refine kl1 rfl rfl h1 <| K.not rfl rfl .plain <| kmv rfl <| RunK.passed rfl rfl rfl <| RunK.passed rfl rfl rfl <| RunK.passed rfl rfl rfl <| RunK.passed rfl rfl rfl <| RunK.passed rfl rfl rfl <| RunK.passed rfl rfl rfl <| kpf rfl rfl <| RunK.nil <| LWP.condF rfl ?_; refine LWP.skip ?_; refine LWP.region (by kernel_rfl) <| kmv rfl <| kad rfl rfl hadd <| kas rfl <| RunK.nil ?_)
    exact ⟨_, ⟨[(1, Lp 1), (3, Ln .i64 (c : Nat)), (4, Ln .i64 (j + 1 + 1 : Nat))], [rfB 1 g l], X⟩, by omega, Le.of (by exact ⟨rfl, rfl, rfl, trivial⟩) (by exact ⟨rfl, trivial⟩) (by exact rfl) (by exact rfl) (by repeat' (first | refine all_cons_true ?_ ?_ | rfl | exact bytes_inUse | exact vals_inUse | exact mid_inUse rfl)), j + 1, by omega, rfl, hst2 _ hsn⟩
  · replace h1 : ((refV g l).map CV.val)[1 + (j + 1) * 3 + 1]? = some (.val (.bool false)) := h1
    replace h2 : ((refV g l).map CV.val)[1 + (j + 1) * 3 + 2]? = some (.val (.bool true)) := h2
    (refine LWP.seq <| LWP.seq <| LWP.region (by kernel_rfl) <| kmv rfl <| kfa rfl rfl ?_; refine kl1 rfl rfl hn <| K.leq rfl rfl (decide_eq_true (by omega)) .plain <| RunK.nil <| LWP.condT rfl ?_; refine LWP.skip ?_; refine LWP.seq <| LWP.block <| LWP.seq <| LWP.region (by kernel_rfl) <| kmv rfl <| kfa rfl rfl ?_; refine K.indexArr rfl rfl (by omega) hio .plain ?_; refine kfa rfl rfl ?_; refine kl1 rfl rfl h1 <| K.not rfl rfl .plain <| kmv rfl <| gmv rfl rfl rfl <| K.fieldAddr rfl rfl (.taken rfl rfl) ?_; refine K.indexArr rfl rfl (by omega) hio (.taken rfl rfl) ?_; refine K.fieldAddr rfl rfl (.taken rfl rfl) ?_; refine K.loadOne rfl rfl h2 (.taken rfl rfl) ?_; refine K.not rfl rfl (.taken rfl rfl) ?_; refine kpt rfl rfl <| RunK.nil <| LWP.condF rfl ?_; refine LWP.skip ?_; refine LWP.region (by kernel_rfl) <| kmv rfl <| kad rfl rfl hadd <| kas rfl <| RunK.nil ?_)
    exact ⟨_, ⟨[(1, Lp 1), (3, Ln .i64 (c : Nat)), (4, Ln .i64 (j + 1 + 1 : Nat))], [rfB 1 g l], X⟩, by omega, Le.of (by exact ⟨rfl, rfl, rfl, trivial⟩) (by exact ⟨rfl, trivial⟩) (by exact rfl) (by exact rfl) (by repeat' (first | refine all_cons_true ?_ ?_ | rfl | exact bytes_inUse | exact vals_inUse | exact mid_inUse rfl)), j + 1, by omega, rfl, hst2 _ hsn⟩
end Go.Proofs.Ytkdbkgfdggbhkaa
end
section
namespace Go.Proofs.Ytkdbkgfdggbhkaa
open Go Go.Lg
set_option maxRecDepth 100000
def u64V (l : List Nat) : List Value := l.map fun h => .int .u64 (h : Nat)
theorem u64V_len (l : List Nat) : ((u64V l).map CV.val).length = l.length * 1 := by unfold u64V; rw [List.length_map, List.length_map, Nat.mul_one]
theorem u64V_snoc (l : List Nat) (h : Nat) : (u64V l).map CV.val ++ [.val (.int .u64 (h : Nat))] = (u64V (l ++ [h])).map CV.val := by unfold u64V; rw [List.map_append, List.map_append]; rfl
def liveL (l : List Ei) : List Nat := liveFrom 0 l
theorem live_snoc : ∀ {l : List Ei} {k j : Nat} {x : Ei}, l[j]? = some x → liveFrom k (l.take (j + 1)) = liveFrom k (l.take j) ++ if livE x = true then [hdl (k + j + 1) x.1] else []
  | a :: t, k, 0, x, h => by
    simp only [List.getElem?_cons_zero, Option.some.injEq] at h
    subst h
    simp [liveFrom]
  | a :: t, k, j + 1, x, h => by
    simp only [List.getElem?_cons_succ] at h
    rw [List.take_succ_cons, List.take_succ_cons, liveFrom, liveFrom, live_snoc (k := k + 1) h, List.append_assoc, show k + 1 + j + 1 = k + (j + 1) + 1 by omega]
  | [], _, _, _, h => by simp at h
theorem live_len : ∀ (l : List Ei) (k : Nat), (liveFrom k l).length = cntE l
  | [], _ => rfl
  | x :: t, k => by
    unfold cntE
    rw [liveFrom, List.length_append, live_len t, List.countP_cons]
    unfold cntE
    split
    · rw [List.length_singleton]; omega
    · rw [List.length_nil]; omega
theorem live_le (l : List Ei) (k : Nat) : (liveFrom k l).length ≤ l.length := by rw [live_len]; exact List.countP_le_length
def refW (g n : Nat) (S : List Ei) : List Value := .int .i64 (g : Nat) :: ((S.map eiV).flatten ++ [.int .i64 (n : Nat)])
theorem refW_eq (g : Nat) (l : List Ei) : refV g l = refW g l.length (fullE l) := rfl
theorem refW_len {g n : Nat} {S : List Ei} (h : S.length = 257) : ((refW g n S).map CV.val).length = 773 := by
  unfold refW
  rw [List.length_map, List.length_cons, List.length_append, fl3_len eiV_len, h]; rfl
theorem refW_set {g n i k : Nat} {S : List Ei} {x y : Ei} {v : Value} (hk : k < 3) (h : S[i]? = some x) (e : (eiV x).set k v = eiV y) : ((refW g n S).map CV.val).set (1 + i * 3 + k) (.val v) = (refW g n (S.set i y)).map CV.val := by
  have hi := (List.getElem?_eq_some_iff.1 h).1
  rw [← List.map_set]
  unfold refW
  rw [show 1 + i * 3 + k = (i * 3 + k) + 1 by omega, List.set_cons_succ, List.set_append_left _ _ (by rw [fl3_len eiV_len]; omega), fl3_set eiV_len hk h e]
def madeE (n j : Nat) : List Ei := (0, 0) :: (List.replicate j (1, 0) ++ List.replicate (256 - j) (0, 0))
theorem made_len {n j : Nat} (h : j ≤ 256) : (madeE n j).length = 257 := by unfold madeE; rw [List.length_cons, List.length_append, List.length_replicate, List.length_replicate]; omega
theorem made_at {n j : Nat} (h : j < 256) : (madeE n j)[j + 1]? = some (0, 0) := by
  unfold madeE
  rw [List.getElem?_cons_succ, List.getElem?_append_right (by rw [List.length_replicate]; omega), List.length_replicate, Nat.sub_self, List.getElem?_replicate, if_pos (by omega)]
theorem made_set {n j : Nat} (h : j < 256) : (madeE n j).set (j + 1) (1, 0) = madeE n (j + 1) := by
  unfold madeE
  rw [List.set_cons_succ, List.set_append_right _ _ (by rw [List.length_replicate]; omega), List.length_replicate, Nat.sub_self, show 256 - j = (256 - (j + 1)) + 1 by omega, List.replicate_succ, List.set_cons_zero, List.replicate_succ', List.append_assoc]
  rfl
theorem made_new (g n : Nat) : refW g n (madeE n n) = refV g (newE n) := by
  rw [refW_eq]
  unfold newE
  rw [List.length_replicate]
  unfold madeE fullE
  rw [List.length_replicate]
instance : StructT Try.prog 43 refZ [(0, 1), (1, 771), (772, 1)] := ⟨by kernel_rfl⟩
theorem fill_new (g n : Nat) : fillL (fun i => [(0, 1), (1, 771), (772, 1)][i]?) (refZ.map .val) [(0, .one (.val (.int .i64 (g : Nat)))), (2, .one (.val (.int .i64 (n : Nat))))] = some ((refW g n (madeE n 0)).map .val) := by rfl
variable (X : Nat → Option Obj)
set_option maxHeartbeats 6400000 in
theorem rLive (g : Nat) (l : List Ei) (hl : l.length ≤ 256) (hgen : ∀ x ∈ l, x.1 < 4294967296) : MSpec Try.prog X 24 [rI g l] [] (.sv (.one (.slc 1000001 0 (liveL l).length 1))) [(1000001, some ⟨26, (u64V (liveL l)).map .val, Nat.blt 0 (liveL l).length⟩)] := by
  refine MSpec.intro Try.func24 rfl (by kernel_rfl) rfl rfl (by exact (by repeat' (first | refine all_cons_true ?_ ?_ | rfl | exact bytes_inUse | exact vals_inUse | exact mid_inUse rfl))) rfl rfl ?_
  intro C
  (refine LWP.seq <| LWP.region (by kernel_rfl) <| K.box rfl (refC_solid g l) rfl .plain <| kas rfl <| RunK.nil <| LWP.seq <| LWP.region (by kernel_rfl) <| K.buildSlc (zs := []) (sz := 1) (e := 26) (by kernel_rfl) rfl rfl rfl rfl rfl rfl .plain <| kas rfl <| RunK.nil <| LWP.seq <| LWP.seq <| LWP.region (by kernel_rfl) <| kas rfl ?_; refine RunK.nil <| LWP.block ?_)
  refine LWP.loop (fun m σ => ∃ j : Nat, j ≤ l.length ∧ m = l.length - j ∧ σ = ⟨[(1, Lp 1), (3, .sv (.one (.slc 500 0 (liveFrom 0 (l.take j)).length 1))), (4, Ln .i64 (j + 1 : Nat))], [(500, some ⟨26, (u64V (liveFrom 0 (l.take j))).map .val, Nat.blt 0 (liveFrom 0 (l.take j)).length⟩), rfB 1 g l], X⟩) l.length
    ⟨⟨[(1, Lp 1), (3, .sv (.one (.slc 500 0 0 1))), (4, Ln .i64 (0 + 1 : Nat))], [(500, some ⟨26, [], false⟩), rfB 1 g l], X⟩, Le.ofR [(500, 5)] (by exact ⟨rfl, rfl, rfl, trivial⟩) (by repeat' (first | exact trivial | refine And.intro ⟨_, rfl, ?_⟩ ?_ | refine And.intro ⟨_, rfl⟩ ?_ | rfl | exact Box.ren_bytes _ _ _ _ | exact Box.ren_vals _ _ _ _ | exact Box.ren_mid rfl)) (by exact rfl) (by exact rfl) (by repeat' (first | refine all_cons_true ?_ ?_ | rfl | exact bytes_inUse | exact vals_inUse | exact mid_inUse rfl)) (by exact rfl) (by exact rfl), 0, by omega, by omega, rfl⟩ ?_
  rintro m σ ⟨j, hj, rfl, rfl⟩
  have hn := ref_n (g := g) hl
  by_cases hlt : j < l.length
  case neg =>
    have e : j = l.length := by omega
    subst e
    rw [List.take_length]
    show LWP _ _ _ _ _ ⟨[(1, Lp 1), (3, .sv (.one (.slc 500 0 (liveL l).length 1))), (4, Ln .i64 (l.length + 1 : Nat))], [(500, some ⟨26, (u64V (liveL l)).map .val, Nat.blt 0 (liveL l).length⟩), rfB 1 g l], X⟩
    (refine LWP.seq <| LWP.seq <| LWP.region (by kernel_rfl) <| kmv rfl <| kfa rfl rfl ?_; refine kl1 rfl rfl hn <| K.leq rfl rfl (decide_eq_false (by omega)) .plain <| RunK.nil <| LWP.condF rfl ?_; refine LWP.exit <| LWP.seq <| LWP.region (by kernel_rfl) <| kmv rfl <| kas rfl <| RunK.nil <| LWP.ret ?_)
    exact ⟨[(1000001, 500)], ⟨[_], ⟨rfl, trivial⟩, rfl⟩, (by repeat' (first | exact trivial | refine And.intro ⟨_, rfl, ?_⟩ ?_ | refine And.intro ⟨_, rfl⟩ ?_ | rfl | exact Box.ren_bytes _ _ _ _ | exact Box.ren_vals _ _ _ _ | exact Box.ren_mid rfl)), rfl, rfl⟩
  obtain ⟨⟨gen, st⟩, hx⟩ : ∃ x, l[j]? = some x := ⟨_, List.getElem?_eq_getElem hlt⟩
  have hgb : gen < 4294967296 := hgen _ (List.mem_of_getElem? hx)
  have hio : 1 + Int.toNat ((j + 1 : Nat) : Int) * 3 = 1 + (j + 1) * 3 := by simp
  have hadd : IntKind.i64.wrap (((j + 1 : Nat) : Int) + 1) = ((j + 1 + 1 : Nat) : Int) := by rw [wrap_i64 (by omega)]; omega
  have hsn := live_snoc (k := 0) hx
  have hle := live_le (l.take j) 0
  rw [List.length_take] at hle
  have h1 := ref_liv (g := g) hx hl
  have h0 := ref_gen (g := g) hx hl
  have hH := rHandle X (j + 1) gen (by omega) hgb
  rw [Nat.zero_add] at hsn
  have hst2 : ∀ L : List Nat, liveFrom 0 (l.take (j + 1)) = L → (⟨[(1, Lp 1), (3, .sv (.one (.slc 500 0 L.length 1))), (4, Ln .i64 (j + 1 + 1 : Nat))], [(500, some ⟨26, (u64V L).map .val, Nat.blt 0 L.length⟩), rfB 1 g l], X⟩ : St) = ⟨[(1, Lp 1), (3, .sv (.one (.slc 500 0 (liveFrom 0 (l.take (j + 1))).length 1))), (4, Ln .i64 (j + 1 + 1 : Nat))], [(500, some ⟨26, (u64V (liveFrom 0 (l.take (j + 1)))).map .val, Nat.blt 0 (liveFrom 0 (l.take (j + 1))).length⟩), rfB 1 g l], X⟩ := fun L h => by rw [h]
  generalize liveFrom 0 (l.take j) = L at *
  by_cases c : st = 1
  case neg =>
    replace h1 : ((refV g l).map CV.val)[1 + (j + 1) * 3 + 1]? = some (.val (.bool false)) := by rw [h1, show ((gen, st) : Ei).2 = st from rfl, show (st == 1) = false from beq_eq_false_iff_ne.2 c]
    rw [if_neg (show ¬ livE (gen, st) = true from fun h => c (beq_iff_eq.1 h)), List.append_nil] at hsn
    (refine LWP.seq <| LWP.seq <| LWP.region (by kernel_rfl) <| kmv rfl <| kfa rfl rfl ?_; refine kl1 rfl rfl hn <| K.leq rfl rfl (decide_eq_true (by omega)) .plain <| RunK.nil <| LWP.condT rfl ?_; refine LWP.skip ?_; refine LWP.seq <| LWP.block <| LWP.seq <| LWP.region (by kernel_rfl) <| kmv rfl <| kfa rfl rfl ?_; refine K.indexArr rfl rfl (by omega) hio .plain ?_; refine kfa rfl rfl ?_; refine kl1 rfl rfl h1 <| RunK.nil <| LWP.condF rfl ?_; refine LWP.skip ?_; refine LWP.region (by kernel_rfl) <| kmv rfl <| kad rfl rfl hadd <| kas rfl <| RunK.nil ?_)
    exact ⟨_, _, by omega, Le.ofR [(500, 500)] (by exact ⟨rfl, rfl, rfl, trivial⟩) (by repeat' (first | exact trivial | refine And.intro ⟨_, rfl, ?_⟩ ?_ | refine And.intro ⟨_, rfl⟩ ?_ | rfl | exact Box.ren_bytes _ _ _ _ | exact Box.ren_vals _ _ _ _ | exact Box.ren_mid rfl)) (by exact rfl) (by exact rfl) (by repeat' (first | refine all_cons_true ?_ ?_ | rfl | exact bytes_inUse | exact vals_inUse | exact mid_inUse rfl)) (by exact rfl) (by exact rfl), j + 1, by omega, rfl, hst2 _ hsn⟩
  subst c
  replace h1 : ((refV g l).map CV.val)[1 + (j + 1) * 3 + 1]? = some (.val (.bool true)) := h1
  rw [if_pos (show livE (gen, 1) = true from rfl)] at hsn
  have hcl := u64V_len L
  have hnc := u64V_snoc L (hdl (j + 1) gen)
  have hnl : L.length + 1 = (L ++ [hdl (j + 1) gen]).length := by rw [List.length_append]; rfl
  have hrow : Nat.blt 0 (L ++ [hdl (j + 1) gen]).length = true := by rw [List.length_append]; simp
  (refine LWP.seq <| LWP.seq <| LWP.region (by kernel_rfl) <| kmv rfl <| kfa rfl rfl ?_; refine kl1 rfl rfl hn <| K.leq rfl rfl (decide_eq_true (by omega)) .plain <| RunK.nil <| LWP.condT rfl ?_; refine LWP.skip ?_; refine LWP.seq <| LWP.block <| LWP.seq <| LWP.region (by kernel_rfl) <| kmv rfl <| kfa rfl rfl ?_; refine K.indexArr rfl rfl (by omega) hio .plain ?_; refine kfa rfl rfl ?_; refine kl1 rfl rfl h1 <| RunK.nil <| LWP.condT rfl ?_; refine LWP.region (by kernel_rfl) <| kmv rfl <| kmv rfl <| kmv rfl <| kfa rfl rfl ?_; refine K.indexArr rfl rfl (by omega) hio .plain ?_; refine kfa rfl rfl ?_; refine kl1 rfl rfl h0 <| kca rfl rfl hH <| K.buildSlc (zs := [.int .u64 0]) (sz := 1) (e := 26) (cs' := [.val (.int .u64 (hdl (j + 1) gen : Nat))]) (by kernel_rfl) rfl rfl rfl rfl rfl rfl .plain <| K.appendSlc (by_ := 8) (e2 := 26) (l2 := [.val (.int .u64 (hdl (j + 1) gen : Nat))]) (nl := (L ++ [hdl (j + 1) gen]).length) (nc := (u64V (L ++ [hdl (j + 1) gen])).map .val) rfl rfl hcl rfl rfl (Nat.le_refl _) rfl rfl (by kernel_rfl) (by kernel_rfl) (by omega) (by omega) rfl hnl hnc .plain <| kas rfl <| RunK.nil <| LWP.region (by kernel_rfl) <| kmv rfl <| kad rfl rfl hadd <| kas rfl <| RunK.nil ?_)
  exact ⟨_, ⟨[(1, Lp 1), (3, .sv (.one (.slc 500 0 (L ++ [hdl (j + 1) gen]).length 1))), (4, Ln .i64 (j + 1 + 1 : Nat))], [(500, some ⟨26, (u64V (L ++ [hdl (j + 1) gen])).map .val, Nat.blt 0 (L ++ [hdl (j + 1) gen]).length⟩), rfB 1 g l], X⟩, by omega, by rw [hrow]; exact Le.ofR [(500, 26)] (by exact ⟨rfl, rfl, rfl, trivial⟩) (by repeat' (first | exact trivial | refine And.intro ⟨_, rfl, ?_⟩ ?_ | refine And.intro ⟨_, rfl⟩ ?_ | rfl | exact Box.ren_bytes _ _ _ _ | exact Box.ren_vals _ _ _ _ | exact Box.ren_mid rfl)) (by exact rfl) (by exact rfl) (by repeat' (first | refine all_cons_true ?_ ?_ | rfl | exact bytes_inUse | exact vals_inUse | exact mid_inUse rfl)) (by exact rfl) (by exact rfl), j + 1, by omega, rfl, hst2 _ hsn⟩
set_option maxHeartbeats 6400000 in
theorem rNew (n g : Nat) (hn : n ≤ 256) (hg : g < 4294967296) : PSpec Try.prog X 18 [Ln .i64 (n : Nat), Ln .i64 (g : Nat)] (.sv (.agg ((refV g (newE n)).map .val))) := by
  refine PSpec.intro Try.func18 rfl (by kernel_rfl) rfl (vals_closed _) ?_
  intro C
  have hml : ∀ j, j ≤ 256 → ((refW g n (madeE n j)).map CV.val).length = 773 := fun j hj => refW_len (made_len hj)
  have hso : ∀ j, ((refW g n (madeE n j)).map CV.val).all CV.solid = true := fun j => vals_solid (by
    unfold refW
    rw [List.all_cons, List.all_append, List.all_flatten, List.all_map]
    have : (madeE n j).all ((List.all · Value.oneCell') ∘ eiV) = true := List.all_eq_true.2 fun x _ => rfl
    rw [this]; rfl)
  (refine LWP.seq <| LWP.region (by kernel_rfl) <| K.alloc rfl .plain ?_; refine RunK.nil <| LWP.seq <| LWP.region (by kernel_rfl) <| kmv rfl <| kmv rfl <| K.build rfl rfl (fill_new g n) rfl .plain ?_; refine K.alloc rfl .plain ?_; refine K.storeAll rfl rfl rfl (hso 0) (hml 0 (by omega)).symm ((hml 0 (by omega)).trans refZ_len.symm) .plain ?_; refine RunK.nil <| LWP.seq <| LWP.seq <| LWP.region (by kernel_rfl) <| kas rfl <| RunK.nil <| LWP.block ?_)
  refine LWP.loop (fun m σ => ∃ j : Nat, j ≤ n ∧ m = n - j ∧ σ = ⟨[(0, Ln .i64 (n : Nat)), (4, Lp 4), (5, Lp 5), (6, Ln .i64 (j + 1 : Nat))], [(5, some ⟨43, (refW g n (madeE n j)).map .val, false⟩), (4, some ⟨43, refZ.map .val, false⟩)], X⟩) n
    ⟨⟨[(0, Ln .i64 (n : Nat)), (4, Lp 4), (5, Lp 5), (6, Ln .i64 (0 + 1 : Nat))], [(5, some ⟨43, (refW g n (madeE n 0)).map .val, false⟩), (4, some ⟨43, refZ.map .val, false⟩)], X⟩, Le.of (by exact ⟨rfl, rfl, rfl, rfl, trivial⟩) (by exact ⟨rfl, rfl, trivial⟩) (by exact rfl) (by exact rfl) (by repeat' (first | refine all_cons_true ?_ ?_ | rfl | exact bytes_inUse | exact vals_inUse | exact mid_inUse rfl)), 0, by omega, by omega, rfl⟩ ?_
  rintro m σ ⟨j, hj, rfl, rfl⟩
  by_cases hlt : j < n
  case neg =>
    have e : j = n := by omega
    subst e
    rw [made_new]
    have hl : (newE j).length ≤ 256 := by unfold newE; rw [List.length_replicate]; exact hn
    (refine LWP.seq <| LWP.seq <| LWP.region (by kernel_rfl) <| kmv rfl <| kmv rfl <| K.leq rfl rfl (decide_eq_false (by omega)) .plain <| RunK.nil <| LWP.condF rfl ?_; refine LWP.exit <| LWP.seq <| LWP.region (by kernel_rfl) <| K.loadAll rfl rfl (refC_len hl).symm .plain ?_; refine K.storeAll rfl rfl rfl (refC_solid g _) (refC_len hl).symm ((refC_len hl).trans refZ_len.symm) .plain ?_; refine RunK.nil <| LWP.ret ?_)
    exact ⟨[_], ⟨⟨_, _, rfl, rfl, rfl, .inl ⟨rfAgg hl, rfl⟩⟩, trivial⟩, rfl⟩
  have hio : 1 + Int.toNat ((j + 1 : Nat) : Int) * 3 = 1 + (j + 1) * 3 := by simp
  have hadd : IntKind.i64.wrap (((j + 1 : Nat) : Int) + 1) = ((j + 1 + 1 : Nat) : Int) := by rw [wrap_i64 (by omega)]; omega
  have hset : ((refW g n (madeE n j)).map CV.val).set (1 + (j + 1) * 3) (.val (.int .i64 1)) = (refW g n (madeE n (j + 1))).map CV.val := by
    rw [show 1 + (j + 1) * 3 = 1 + (j + 1) * 3 + 0 from rfl, refW_set (k := 0) (v := .int .i64 1) (y := (1, 0)) (by decide) (made_at (by omega)) rfl, made_set (by omega)]
  have hroom : Nat.blt (1 + (j + 1) * 3) ((refW g n (madeE n j)).map CV.val).length = true := by rw [hml j (by omega), Nat.blt_eq]; omega
  (refine LWP.seq <| LWP.seq <| LWP.region (by kernel_rfl) <| kmv rfl <| kmv rfl <| K.leq rfl rfl (decide_eq_true (by omega)) .plain <| RunK.nil <| LWP.condT rfl ?_; refine LWP.skip ?_; refine LWP.seq <| LWP.block <| LWP.region (by kernel_rfl) <| kmv rfl <| kfa rfl rfl ?_; refine K.indexArr rfl rfl (by omega) hio .plain ?_; refine kfa rfl rfl ?_; refine K.storeOne rfl rfl rfl rfl hroom hset .plain <| RunK.nil <| LWP.region (by kernel_rfl) <| kmv rfl <| kad rfl rfl hadd <| kas rfl <| RunK.nil ?_)
  exact ⟨_, ⟨[(0, Ln .i64 (n : Nat)), (4, Lp 4), (5, Lp 5), (6, Ln .i64 (j + 1 + 1 : Nat))], [(5, some ⟨43, (refW g n (madeE n (j + 1))).map .val, false⟩), (4, some ⟨43, refZ.map .val, false⟩)], X⟩, by omega, Le.of (by exact ⟨rfl, rfl, rfl, rfl, trivial⟩) (by exact ⟨rfl, rfl, trivial⟩) (by exact rfl) (by exact rfl) (by repeat' (first | refine all_cons_true ?_ ?_ | rfl | exact bytes_inUse | exact vals_inUse | exact mid_inUse rfl)), j + 1, by omega, rfl, rfl⟩
end Go.Proofs.Ytkdbkgfdggbhkaa
end
section
namespace Go.Proofs.Ytkdbkgfdggbhkaa
open Go Go.Lg
set_option maxRecDepth 100000
structure OkX (g : Nat) (l : List Ei) : Prop where
  ids : 1 ≤ l.length ∧ l.length ≤ 256
  gens : 1 ≤ g ∧ g ≤ 65535
  ok : okE g l
theorem OkX.gen {g : Nat} {l : List Ei} (h : OkX g l) : ∀ x ∈ l, x.1 < 4294967296 := fun x hx => by
  have := (h.ok x hx).1
  have := h.gens
  omega
theorem OkX.st {g : Nat} {l : List Ei} (h : OkX g l) : ∀ x ∈ l, x.2 ≤ 2 := fun x hx => (h.ok x hx).2.1
theorem OkX.new {n g : Nat} (hn : 1 ≤ n ∧ n ≤ 256) (hg : 1 ≤ g ∧ g ≤ 65535) : OkX g (newE n) := ⟨by unfold newE; rw [List.length_replicate]; exact hn, hg, okE_new n hg.1⟩
theorem OkX.spawn {g : Nat} {l : List Ei} (h : OkX g l) {i gen st : Nat} (hx : l[i]? = some (gen, st)) : OkX g (l.set i (gen, 1)) := ⟨by rw [List.length_set]; exact h.ids, h.gens, okE_spawn h.ok hx⟩
theorem OkX.kill {g : Nat} {l : List Ei} (h : OkX g l) {i : Nat} {x : Ei} (hx : l[i]? = some x) : OkX g (l.set i (killE g x)) := ⟨by rw [List.length_set]; exact h.ids, h.gens, okE_kill h.ok hx⟩
def genE (x : Ei) : Nat := x.1 + if x.2 = 2 then 1 else 0
def stZ (x : Ei) : List Value := [.int .i64 (genE x : Nat), .bool (livE x)]
def stL (l : List Ei) : List Value := (l.map stZ).flatten
theorem stL_len (l : List Ei) : (stL l).length = l.length * 2 := by unfold stL; induction l with | nil => rfl | cons a t ih => rw [List.map_cons, List.flatten_cons, List.length_append, ih, List.length_cons, Nat.succ_mul, Nat.add_comm]; rfl
theorem stL_split {l : List Ei} {i : Nat} {x : Ei} (h : l[i]? = some x) : stL l = stL (l.take i) ++ (stZ x ++ stL (l.drop (i + 1))) := by
  obtain ⟨hi, e⟩ := List.getElem?_eq_some_iff.1 h
  conv => lhs; rw [← List.take_append_drop i l, ← List.getElem_cons_drop hi, e]
  unfold stL
  rw [List.map_append, List.flatten_append, List.map_cons, List.flatten_cons]
theorem stL_set {l : List Ei} {i : Nat} (h : i < l.length) (y : Ei) : stL (l.set i y) = stL (l.take i) ++ (stZ y ++ stL (l.drop (i + 1))) := by
  rw [List.set_eq_take_append_cons_drop, if_pos h]
  unfold stL
  rw [List.map_append, List.flatten_append, List.map_cons, List.flatten_cons]
theorem stL_splice {l : List Ei} {i : Nat} {x : Ei} (h : l[i]? = some x) (y : Ei) : splice ((stL l).map CV.val) (i * 2) ((stZ y).map .val) = (stL (l.set i y)).map .val := by
  have hi := (List.getElem?_eq_some_iff.1 h).1
  have hl : ((stL (l.take i)).map CV.val).length = i * 2 := by rw [List.length_map, stL_len, List.length_take, Nat.min_eq_left (by omega)]
  rw [stL_set hi, stL_split h]
  unfold splice
  simp only [List.map_append]
  have e1 : ∀ A B : List CV, A.length = i * 2 → (A ++ B).take (i * 2) = A := fun A B e => by rw [← e, List.take_left]
  have e2 : ∀ (A : List CV) (p q : CV) (B : List CV), A.length = i * 2 → (A ++ ([p, q] ++ B)).drop (i * 2 + 2) = B := fun A p q B e => by rw [← e, List.drop_append, List.drop_eq_nil_of_le (by omega), List.nil_append, Nat.add_sub_cancel_left]; rfl
  rw [e1 _ _ hl, show ((stZ y).map CV.val).length = 2 from rfl]
  show _ ++ _ ++ ((stL (l.take i)).map CV.val ++ ([_, _] ++ _)).drop (i * 2 + 2) = _
  rw [e2 _ _ _ _ hl, List.append_assoc]
def frF : Nat → List Ei → List Int
  | _, [] => []
  | k, x :: t => (if freeE x = true then [((k + 1 : Nat) : Int)] else []) ++ frF (k + 1) t
theorem frF_len : ∀ (l : List Ei) (k : Nat), (frF k l).length = freE l
  | [], _ => rfl
  | x :: t, k => by
    unfold freE
    rw [frF, List.length_append, frF_len t, List.countP_cons]
    unfold freE
    split
    · rw [List.length_singleton]; omega
    · rw [List.length_nil]; omega
theorem frF_mem : ∀ {l : List Ei} {k : Nat} {a : Int}, a ∈ frF k l → ∃ (i : Nat) (x : Ei), l[i]? = some x ∧ freeE x = true ∧ a = ((k + i + 1 : Nat) : Int)
  | x :: t, k, a, h => by
    rw [frF, List.mem_append] at h
    rcases h with h | h
    · split at h
      · rename_i hf
        rw [List.mem_singleton] at h
        exact ⟨0, x, rfl, hf, h⟩
      · cases h
    · obtain ⟨i, y, h1, h2, h3⟩ := frF_mem h
      exact ⟨i + 1, y, h1, h2, by rw [h3, show k + 1 + i + 1 = k + (i + 1) + 1 by omega]⟩
  | [], _, _, h => by cases h
theorem mem_frF : ∀ {l : List Ei} {k i : Nat} {x : Ei}, l[i]? = some x → freeE x = true → ((k + i + 1 : Nat) : Int) ∈ frF k l
  | y :: t, k, 0, x, h, hf => by
    simp only [List.getElem?_cons_zero, Option.some.injEq] at h
    subst h
    rw [frF, if_pos hf]
    exact List.mem_append_left _ (List.mem_singleton.2 rfl)
  | y :: t, k, i + 1, x, h, hf => by
    simp only [List.getElem?_cons_succ] at h
    rw [frF, show k + (i + 1) + 1 = k + 1 + i + 1 by omega]
    exact List.mem_append_right _ (mem_frF h hf)
  | [], _, _, _, h, _ => by simp at h
theorem frF_take : ∀ {l : List Ei} {k i : Nat} {x : Ei}, l[i]? = some x → freeE x = true → ∀ y : Ei, freeE y = false → (frF k l).Perm (((k + i + 1 : Nat) : Int) :: frF k (l.set i y))
  | z :: t, k, 0, x, h, hx, y, hy => by
    simp only [List.getElem?_cons_zero, Option.some.injEq] at h
    subst h
    rw [List.set_cons_zero, frF, frF, if_pos hx, if_neg (by rw [hy]; decide)]
    exact List.Perm.refl _
  | z :: t, k, i + 1, x, h, hx, y, hy => by
    simp only [List.getElem?_cons_succ] at h
    rw [List.set_cons_succ, frF, frF, show k + (i + 1) + 1 = k + 1 + i + 1 by omega]
    exact (List.Perm.append_left _ (frF_take h hx y hy)).trans List.perm_middle
  | [], _, _, _, h, _, _, _ => by simp at h
theorem frF_keep : ∀ {l : List Ei} {k i : Nat} {x : Ei}, l[i]? = some x → ∀ y : Ei, freeE x = freeE y → frF k (l.set i y) = frF k l
  | z :: t, k, 0, x, h, y, hy => by
    simp only [List.getElem?_cons_zero, Option.some.injEq] at h
    subst h
    rw [List.set_cons_zero, frF, frF, hy]
  | z :: t, k, i + 1, x, h, y, hy => by
    simp only [List.getElem?_cons_succ] at h
    rw [List.set_cons_succ, frF, frF, frF_keep h y hy]
  | [], _, _, _, h, _, _ => by simp at h
theorem frF_new : ∀ (n k : Nat), frF k (newE n) = (List.range n).map fun i => ((k + i + 1 : Nat) : Int)
  | 0, _ => rfl
  | n + 1, k => by
    show frF k ((1, 0) :: newE n) = _
    rw [frF, frF_new n, List.range_succ_eq_map, List.map_cons, List.map_map]
    show _ :: _ = _ :: _
    congr 1
    exact List.map_congr_left fun i _ => by show ((k + 1 + i + 1 : Nat) : Int) = ((k + (i + 1) + 1 : Nat) : Int); rw [show k + 1 + i + 1 = k + (i + 1) + 1 by omega]
structure FreeH (l : List Ei) (v : Nat → Int) (L : Nat) : Prop where
  heap : HeapFrom ilt v L 0
  perm : (listV v L).Perm (frF 0 l)
theorem FreeH.len {l : List Ei} {v : Nat → Int} {L : Nat} (h : FreeH l v L) : L = freE l := by
  have := h.perm.length_eq
  rwa [listV_len, frF_len] at this
theorem FreeH.le {l : List Ei} {v : Nat → Int} {L : Nat} (h : FreeH l v L) : L ≤ l.length := by rw [h.len]; exact List.countP_le_length
theorem FreeH.root {l : List Ei} {v : Nat → Int} {L i : Nat} (h : FreeH l v L) (hn : nextE l = some i) : v 0 = ((i + 1 : Nat) : Int) := by
  obtain ⟨gen, hx, hlo⟩ := next_at hn
  have hm : ((i + 1 : Nat) : Int) ∈ listV v L := h.perm.mem_iff.2 (by have := mem_frF (k := 0) hx rfl; rwa [Nat.zero_add] at this)
  unfold listV at hm
  obtain ⟨c, hc, e⟩ := List.mem_map.1 hm
  have hc := List.mem_range.1 hc
  have h1 := of_decide_eq_false (heap_root ilt_ord h.heap c hc)
  have h0 : v 0 ∈ listV v L := List.mem_map.2 ⟨0, List.mem_range.2 (by omega), rfl⟩
  obtain ⟨j, y, hy, hf, e2⟩ := frF_mem (h.perm.mem_iff.1 h0)
  by_cases hj : j < i
  · have := hlo j y hj hy
    rw [this] at hf; cases hf
  · rw [e] at h1
    rw [e2] at h1 ⊢
    omega
theorem FreeH.new (n : Nat) : FreeH (newE n) (fun i => ((i + 1 : Nat) : Int)) n := ⟨fun c h0 hm _ => decide_eq_false (by omega), by
  rw [frF_new]
  unfold listV
  rw [List.map_congr_left (g := fun i => ((0 + i + 1 : Nat) : Int)) fun i _ => by rw [Nat.zero_add]]⟩
theorem FreeH.pop {l : List Ei} {v : Nat → Int} {n i : Nat} (h : FreeH l v (n + 1)) (hn : nextE l = some i) {gen : Nat} (hx : l[i]? = some (gen, 0)) : FreeH (l.set i (gen, 1)) (popF v n) n := by
  have hr := h.root hn
  have hd := downF_heap ilt_ord (m := n) (s := 0) (n := n) (v := swapV v 0 n) (i := 0) (pop_start h.heap fun c c0 cm => swapV_out v (by omega) (by omega)) (Nat.le_refl _) (Nat.le_refl _)
  refine ⟨hd.1, ?_⟩
  have hs := swapV_perm v (m := n + 1) (i := 0) (j := n) (by omega) (by omega)
  have hw : swapV v 0 n n = v 0 := by
    unfold swapV
    by_cases e : n = 0
    · rw [if_pos e, e]
    · rw [if_neg e, if_pos rfl]
  rw [listV_succ, hw] at hs
  have h1 : (listV (swapV v 0 n) n ++ [v 0]).Perm (((0 + i + 1 : Nat) : Int) :: frF 0 (l.set i (gen, 1))) := (hs.trans h.perm).trans (frF_take hx rfl (gen, 1) rfl)
  rw [hr, Nat.zero_add] at h1
  have h2 := ((List.perm_append_singleton _ _).symm.trans h1).cons_inv
  exact hd.2.1.trans h2
theorem FreeH.push {l : List Ei} {v : Nat → Int} {L i : Nat} (h : FreeH l v L) {x y : Ei} (hx : l[i]? = some x) (h0 : freeE x = false) (hy : freeE y = true) : FreeH (l.set i y) (upF ilt L (setV v L ((i + 1 : Nat) : Int)) L) (L + 1) := by
  have hi := (List.getElem?_eq_some_iff.1 hx).1
  have hv : ∀ k, k < L → setV v L ((i + 1 : Nat) : Int) k = v k := fun k hk => if_neg (by omega)
  have hU : UpInv ilt (setV v L ((i + 1 : Nat) : Int)) (L + 1) L := up_start fun c c0 cm hs => by rw [hv c cm, hv _ (by omega)]; exact h.heap c c0 cm hs
  have hu := upF_heap ilt_ord hU (by omega) (Nat.le_refl _)
  refine ⟨hu.1, hu.2.trans ?_⟩
  rw [listV_succ, listV_congr hv, show setV v L ((i + 1 : Nat) : Int) L = ((i + 1 : Nat) : Int) from if_pos rfl]
  have h1 := frF_take (k := 0) (l := l.set i y) (i := i) (x := y) (List.getElem?_set_self hi) hy x h0
  have hself : l.set i x = l := by
    obtain ⟨hi', e⟩ := List.getElem?_eq_some_iff.1 hx
    rw [← e]
    exact List.set_getElem_self hi'
  rw [List.set_set, hself, Nat.zero_add] at h1
  exact ((List.perm_append_singleton _ _).trans (h.perm.cons _)).trans h1.symm
theorem FreeH.keep {l : List Ei} {v : Nat → Int} {L i : Nat} (h : FreeH l v L) {x y : Ei} (hx : l[i]? = some x) (e : freeE x = freeE y) : FreeH (l.set i y) v L := ⟨h.heap, by rw [frF_keep hx y e]; exact h.perm⟩
def ixV (g : Nat) (vi vf : Value) : List Value := [.int .i64 (g : Nat), vi, vf]
def ixR (g : Nat) (l : List Ei) : Rsc := ⟨fun ρ H => ρ.2 = 3 ∧ ∃ (fr : Nat × Nat) (vi vf : Value) (b1 b2 : Nat) (v : Nat → Int) (L : Nat),
  H ρ.1 = some (.cells (ixV g vi vf).toArray 68 fr) ∧ LeadsTo (cutM H ρ.1) b1 vi 70 2 (stL l) ∧ LeadsTo (cutM (cutM H ρ.1) b1) b2 vf 3 1 (idL v L) ∧ FreeH l v L⟩
abbrev xB (k g : Nat) (l : List Ei) : Nat × Option Box := (k, some ⟨0, [], .res (ixR g l)⟩)
abbrev sxB (k g : Nat) (a b : CV) : Nat × Option Box := (k, some ⟨68, [.val (.int .i64 (g : Nat)), a, b], false⟩)
abbrev stB (k : Nat) (l : List Ei) : Nat × Option Box := (k, some ⟨70, (stL l).map .val, true⟩)
abbrev oX (k kf ks g : Nat) (l : List Ei) (v : Nat → Int) (L : Nat) (bx : List (Nat × Option Box)) : List (Nat × Option Box) := sxB k g (.slc ks 0 l.length 2) (.slc kf 0 L 1) :: hpB kf v L :: stB ks l :: bx
theorem ix_root (g : Nat) (l : List Ei) : ∀ ρ H, (ixR g l).holds ρ H → ∃ vals el fr, H ρ.1 = some (.cells vals el fr) ∧ vals.size = ρ.2 := fun ρ H h => by
  obtain ⟨h1, fr, vi, vf, b1, b2, v, L, h2, _⟩ := h
  exact ⟨_, _, fr, h2, by rw [h1]; rfl⟩
section
variable {P : Program} {n : Nat} {C : Ctx} {c : Code} {Q : Exit → St → Prop} {X : Nat → Option Obj} {s : List (Nat × LV)} {bx : List (Nat × Option Box)} {k kf ks : Nat}
structure Beside (s : List (Nat × LV)) (bx : List (Nat × Option Box)) (k kf ks : Nat) : Prop where
  s1 : ∀ b, s.all (fun p => p.2.inUse ((k, some b) :: bx)) = true
  s2 : ∀ b b', s.all (fun p => p.2.inUse ((k, some b) :: (ks, some b') :: bx)) = true
  s3 : ∀ b', s.all (fun p => p.2.inUse ((k, none) :: (ks, some b') :: bx)) = true
  s4 : s.all (fun p => p.2.inUse ((k, none) :: bx)) = true
  b1 : ∀ b, bx.all (fun p => match p.2 with | some b' => b'.cells.all (CV.inUse ((k, some b) :: bx)) | none => true) = true
  b2 : ∀ b b', bx.all (fun p => match p.2 with | some b'' => b''.cells.all (CV.inUse ((k, some b) :: (ks, some b') :: bx)) | none => true) = true
  b3 : ∀ b', bx.all (fun p => match p.2 with | some b'' => b''.cells.all (CV.inUse ((k, none) :: (ks, some b') :: bx)) | none => true) = true
  b4 : bx.all (fun p => match p.2 with | some b' => b'.cells.all (CV.inUse ((k, none) :: bx)) | none => true) = true
  k1 : Lg.look ks bx = none
  k2 : Lg.look kf bx = none
  n1 : Nat.beq ks kf = false
  n2 : Nat.beq k ks = false
  n3 : Nat.beq k kf = false
theorem slc_use {x : Option Box} {b : Option Box} {o m sz : Nat} (h : Nat.beq k ks = false) : (CV.slc ks o m sz).inUse ((k, x) :: (ks, b) :: bx) = true := by
  show (Lg.look ks ((k, x) :: (ks, b) :: bx)).isSome = true
  unfold Lg.look
  rw [h]
  show (Lg.look ks ((ks, b) :: bx)).isSome = true
  unfold Lg.look
  rw [Nat.beq_refl]
  rfl
theorem ix_open {kf ks : Nat} {g : Nat} {l : List Ei} (hB : Beside s bx k kf ks) (l1 : Nat.blt ks 1000000 = true) (l2 : Nat.blt kf 1000000 = true)
    (h : ∀ (H : Nat → Option Obj) (v : Nat → Int) (L : Nat), OwnedM C X H → FreeH l v L → LWP P n C c Q ⟨s, oX k kf ks g l v L bx, joinM X H⟩) :
    LWP P n C c Q ⟨s, xB k g l :: bx, X⟩ := by
  refine LWP.openRes (ix_root g l) fun ρ H vals el fr hR hv hO => ?_
  obtain ⟨h1, fr', vi, vf, b1, b2, v, L, h2, h3, h4, h5⟩ := hR
  rw [hv] at h2
  simp only [Option.some.injEq, Obj.cells.injEq] at h2
  obtain ⟨rfl, rfl, rfl⟩ := h2
  refine LWP.openCell (A := [.val (.int .i64 (g : Nat))]) (B := [.val vf]) (k := ks) (sz := 2) (len := l.length) (hO.cut _) h3 (stL_len l) (by omega) (hB.s1 _) ?_ hB.k1 hB.n2 l1 ?_
  · rw [List.all_cons]; exact hB.b1 _
  refine LWP.openCell (A := [.val (.int .i64 (g : Nat)), .slc ks 0 l.length 2]) (B := []) (k := kf) (sz := 1) (len := L) ((hO.cut _).cut _) h4 (by rw [idL_len]; omega) (by omega) (hB.s2 _ _) ?_ ?_ hB.n3 l2 ?_
  · rw [List.all_cons, List.all_cons]
    refine Bool.and_eq_true_iff.2 ⟨?_, Bool.and_eq_true_iff.2 ⟨vals_inUse, hB.b2 _ _⟩⟩
    show (true && (CV.inUse _ _ && (true && true))) = true
    rw [slc_use hB.n2]
    rfl
  · unfold Lg.look; rw [hB.n1]; exact hB.k2
  exact h _ v L (((hO.cut _).cut _).cut _) h5
abbrev oXr (k kf ks g : Nat) (l : List Ei) (v : Nat → Int) (L : Nat) (r1 r2 : Bool) (bx : List (Nat × Option Box)) : List (Nat × Option Box) := sxB k g (.slc ks 0 l.length 2) (.slc kf 0 L 1) :: (kf, some ⟨3, (idL v L).map .val, r1⟩) :: (ks, some ⟨70, (stL l).map .val, r2⟩) :: bx
theorem ix_shut {Mid : St → Prop} {r1 r2 : Bool} {g : Nat} {l : List Ei} {v : Nat → Int} {L : Nat} {H : Nat → Option Obj} (hO : OwnedM C X H) (hF : FreeH l v L) (hB : Beside s bx k kf ks)
    (h : Leads n C Mid ⟨s, xB k g l :: bx, X⟩) : Leads n C Mid ⟨s, oXr k kf ks g l v L r1 r2 bx, joinM X H⟩ := by
  refine Leads.closeCell (A := [.val (.int .i64 (g : Nat)), .slc ks 0 l.length 2]) (B := []) hO (by rw [idL_len]; omega) (hB.s3 _) ?_ rfl ?_ ?_ hB.n3 fun b o w h1 _ hO3 hv => ?_
  · show (true && (CV.inUse _ _ && true)) = true
    rw [slc_use hB.n2]
    rfl
  · rw [List.all_cons]
    exact Bool.and_eq_true_iff.2 ⟨vals_inUse, hB.b3 _⟩
  · unfold Lg.look; rw [hB.n1]; exact hB.k2
  refine Leads.closeCell (A := [.val (.int .i64 (g : Nat))]) (B := [.val w]) hO3 (stL_len l) hB.s4 rfl rfl hB.b4 hB.k1 hB.n2 fun b' o' w' h1' _ hO4 hv' => ?_
  refine Leads.closeRes (vals := ixV g w' w) hO4 (fun ρ fr g1 g2 g3 => ?_) h
  refine ⟨g3, fr, w', w, b', b, v, L, withBlock_at _ _ _, ?_, ?_, hF⟩
  · rw [cut_with g1]; exact hv'
  · rw [cut_with g1, cut_with h1']; exact hv
end
end Go.Proofs.Ytkdbkgfdggbhkaa
end
section
namespace Go.Proofs.Ytkdbkgfdggbhkaa
open Go Go.Lg
set_option maxRecDepth 100000
abbrev Lnil : LV := .sv (.one (.val (.pointer none)))
def ofH (id gen : Int) : Nat := if 1 ≤ id ∧ id ≤ 4294967295 ∧ 1 ≤ gen ∧ gen ≤ 4294967295 then hdl id.toNat gen.toNat else 0
theorem hdl_int (i g : Nat) : ((hdl i g : Nat) : Int) = (g : Int) * 4294967296 + (i : Int) := by unfold hdl; rw [Int.natCast_add, Int.natCast_mul]; rfl
theorem shl_32 {g : Nat} (h : g < 4294967296) : IntKind.u64.wrap (((g : Nat) : Int) * 2 ^ (min (Int.toNat 32) IntKind.u64.bits)) = (g : Int) * 4294967296 := by
  show IntKind.u64.wrap ((g : Int) * 4294967296) = _
  rw [wrap_u64 (by omega)]
theorem or_hdl {i g : Nat} (hi : i < 4294967296) (h : g < 4294967296) : bits .or .u64 ((g : Int) * 4294967296) (i : Int) = ((hdl i g : Nat) : Int) := by
  rw [hdl_int]
  exact or_apart (s := 32) (by omega) ⟨by omega, by show (g : Int) * 4294967296 < _; omega⟩ ⟨by omega, by show (i : Int) < 4294967296; omega⟩
theorem and_id {h : Nat} (hh : h < 18446744073709551616) : bits .and .u64 ((h : Nat) : Int) 4294967295 = ((h % 4294967296 : Nat) : Int) := by rw [and_32 (by omega)]; rfl
theorem shr_gen (h : Nat) : ((h : Nat) : Int).fdiv (2 ^ (min (Int.toNat 32) IntKind.u64.bits)) = ((h / 4294967296 : Nat) : Int) := by rw [shr_32]; rfl
variable (X : Nat → Option Obj)
theorem iId (h : Nat) (hh : h < 18446744073709551616) : PSpec Try.prog X 28 [Ln .u64 (h : Nat)] (Ln .i64 (h % 4294967296 : Nat)) := by
  have ha := and_id hh
  have hlt : h % 4294967296 < 4294967296 := Nat.mod_lt _ (by decide)
  generalize h % 4294967296 = q at *
  have hw : IntKind.i64.wrap ((q : Nat) : Int) = ((q : Nat) : Int) := wrap_i64 (by omega)
  refine PSpec.intro Try.func28 rfl (by kernel_rfl) rfl rfl ?_
  intro C
  (refine LWP.seq <| LWP.region (by kernel_rfl) <| kas rfl <| RunK.nil <| LWP.seq <| LWP.region (by kernel_rfl) <| kmv rfl <| K.bitop (by simp) rfl rfl ha .plain <| kcv rfl hw ?_; refine kas rfl <| RunK.nil <| LWP.ret ?_)
  exact ⟨[_], ⟨rfl, trivial⟩, rfl⟩
theorem iId_any (h : Int) : PSpec Try.prog X 28 [Ln .u64 h] (Ln .i64 (IntKind.i64.wrap (bits .and .u64 h 4294967295))) := by
  refine PSpec.intro Try.func28 rfl (by kernel_rfl) rfl rfl ?_
  intro C
  (refine LWP.seq <| LWP.region (by kernel_rfl) <| kas rfl <| RunK.nil <| LWP.seq <| LWP.region (by kernel_rfl) <| kmv rfl <| K.bitop (by simp) rfl rfl rfl .plain <| kcv rfl rfl ?_; refine kas rfl <| RunK.nil <| LWP.ret ?_)
  exact ⟨[_], ⟨rfl, trivial⟩, rfl⟩
theorem iGen (h : Nat) (hh : h < 18446744073709551616) : PSpec Try.prog X 29 [Ln .u64 (h : Nat)] (Ln .i64 (h / 4294967296 : Nat)) := by
  have ha := shr_gen h
  have hlt : h / 4294967296 < 4294967296 := by omega
  generalize h / 4294967296 = q at *
  have hw : IntKind.i64.wrap ((q : Nat) : Int) = ((q : Nat) : Int) := wrap_i64 (by omega)
  refine PSpec.intro Try.func29 rfl (by kernel_rfl) rfl rfl ?_
  intro C
  (refine LWP.seq <| LWP.region (by kernel_rfl) <| kas rfl <| RunK.nil <| LWP.seq <| LWP.region (by kernel_rfl) <| kmv rfl <| K.shr rfl rfl (by decide) ha .plain <| kcv rfl hw ?_; refine kas rfl <| RunK.nil <| LWP.ret ?_)
  exact ⟨[_], ⟨rfl, trivial⟩, rfl⟩
set_option maxHeartbeats 3200000 in
theorem iOf (id gen : Int) : PSpec Try.prog X 27 [Ln .i64 id, Ln .i64 gen] (Ln .u64 (ofH id gen : Nat)) := by
  refine PSpec.intro Try.func27 rfl (by kernel_rfl) rfl rfl ?_
  intro C
  by_cases c1 : id < 1
  · rw [show ofH id gen = 0 from if_neg (by omega)]
    (refine LWP.seq <| LWP.region (by kernel_rfl) <| kas rfl <| RunK.nil <| LWP.seq <| LWP.seq <| LWP.region (by kernel_rfl) <| kmv rfl <| klt rfl rfl (decide_eq_true c1) <| kmv rfl <| RunK.passed rfl rfl rfl <| RunK.passed rfl rfl rfl <| kpt rfl rfl <| kmv rfl ?_; refine RunK.passed rfl rfl rfl <| RunK.passed rfl rfl rfl <| kpt rfl rfl <| kmv rfl <| RunK.passed rfl rfl rfl <| RunK.passed rfl rfl rfl <| kpt rfl rfl <| RunK.nil <| LWP.condT rfl ?_; refine LWP.seq <| LWP.region (by kernel_rfl) <| kas rfl <| RunK.nil <| LWP.ret ?_)
    exact ⟨[_], ⟨rfl, trivial⟩, rfl⟩
  by_cases c2 : 4294967295 < id
  · rw [show ofH id gen = 0 from if_neg (by omega)]
    (refine LWP.seq <| LWP.region (by kernel_rfl) <| kas rfl <| RunK.nil <| LWP.seq <| LWP.seq <| LWP.region (by kernel_rfl) <| kmv rfl <| klt rfl rfl (decide_eq_false c1) <| kmv rfl <| gmv rfl rfl rfl <| K.gtr rfl rfl (decide_eq_true c2) (.taken rfl rfl) ?_; refine kpf rfl rfl <| kmv rfl <| RunK.passed rfl rfl rfl <| RunK.passed rfl rfl rfl <| kpt rfl rfl <| kmv rfl <| RunK.passed rfl rfl rfl <| RunK.passed rfl rfl rfl <| kpt rfl rfl <| RunK.nil <| LWP.condT rfl ?_; refine LWP.seq <| LWP.region (by kernel_rfl) <| kas rfl <| RunK.nil <| LWP.ret ?_)
    exact ⟨[_], ⟨rfl, trivial⟩, rfl⟩
  by_cases c3 : gen < 1
  · rw [show ofH id gen = 0 from if_neg (by omega)]
    (refine LWP.seq <| LWP.region (by kernel_rfl) <| kas rfl <| RunK.nil <| LWP.seq <| LWP.seq <| LWP.region (by kernel_rfl) <| kmv rfl <| klt rfl rfl (decide_eq_false c1) <| kmv rfl <| gmv rfl rfl rfl <| K.gtr rfl rfl (decide_eq_false c2) (.taken rfl rfl) ?_; refine kpf rfl rfl <| kmv rfl <| gmv rfl rfl rfl <| K.lss rfl rfl (decide_eq_true c3) (.taken rfl rfl) ?_; refine kpf rfl rfl <| kmv rfl <| RunK.passed rfl rfl rfl <| RunK.passed rfl rfl rfl <| kpt rfl rfl <| RunK.nil <| LWP.condT rfl ?_; refine LWP.seq <| LWP.region (by kernel_rfl) <| kas rfl <| RunK.nil <| LWP.ret ?_)
    exact ⟨[_], ⟨rfl, trivial⟩, rfl⟩
  by_cases c4 : 4294967295 < gen
  · rw [show ofH id gen = 0 from if_neg (by omega)]
    (refine LWP.seq <| LWP.region (by kernel_rfl) <| kas rfl <| RunK.nil <| LWP.seq <| LWP.seq <| LWP.region (by kernel_rfl) <| kmv rfl <| klt rfl rfl (decide_eq_false c1) <| kmv rfl <| gmv rfl rfl rfl <| K.gtr rfl rfl (decide_eq_false c2) (.taken rfl rfl) ?_; refine kpf rfl rfl <| kmv rfl <| gmv rfl rfl rfl <| K.lss rfl rfl (decide_eq_false c3) (.taken rfl rfl) ?_; refine kpf rfl rfl <| kmv rfl <| gmv rfl rfl rfl <| K.gtr rfl rfl (decide_eq_true c4) (.taken rfl rfl) ?_; refine kpf rfl rfl <| RunK.nil <| LWP.condT rfl ?_; refine LWP.seq <| LWP.region (by kernel_rfl) <| kas rfl <| RunK.nil <| LWP.ret ?_)
    exact ⟨[_], ⟨rfl, trivial⟩, rfl⟩
  rw [show ofH id gen = hdl id.toNat gen.toNat from if_pos (by omega)]
  obtain ⟨i, rfl⟩ := Int.eq_ofNat_of_zero_le (show 0 ≤ id by omega)
  obtain ⟨q, rfl⟩ := Int.eq_ofNat_of_zero_le (show 0 ≤ gen by omega)
  have w1 : IntKind.u64.wrap ((i : Nat) : Int) = ((i : Nat) : Int) := wrap_u64 (by omega)
  have w2 : IntKind.u64.wrap ((q : Nat) : Int) = ((q : Nat) : Int) := wrap_u64 (by omega)
  have h1 := shl_32 (g := q) (by omega)
  have h2 := or_hdl (i := i) (g := q) (by omega) (by omega)
  rw [Int.toNat_natCast, Int.toNat_natCast]
  generalize hdl i q = e at *
  generalize (q : Int) * 4294967296 = z at h1 h2
  (refine LWP.seq <| LWP.region (by kernel_rfl) <| kas rfl <| RunK.nil <| LWP.seq <| LWP.seq <| LWP.region (by kernel_rfl) <| kmv rfl <| klt rfl rfl (decide_eq_false c1) <| kmv rfl <| gmv rfl rfl rfl <| K.gtr rfl rfl (decide_eq_false c2) (.taken rfl rfl) ?_; refine kpf rfl rfl <| kmv rfl <| gmv rfl rfl rfl <| K.lss rfl rfl (decide_eq_false c3) (.taken rfl rfl) ?_; refine kpf rfl rfl <| kmv rfl <| gmv rfl rfl rfl <| K.gtr rfl rfl (decide_eq_false c4) (.taken rfl rfl) ?_; refine kpf rfl rfl <| RunK.nil <| LWP.condF rfl ?_; refine LWP.skip ?_; refine LWP.seq <| LWP.region (by kernel_rfl) <| kmv rfl <| kcv rfl w2 ?_; refine K.shl rfl rfl (by decide) h1 .plain <| kmv rfl <| kcv rfl w1 ?_; refine K.bitop (by simp) rfl rfl h2 .plain <| kas rfl <| RunK.nil <| LWP.ret ?_)
  exact ⟨[_], ⟨rfl, trivial⟩, rfl⟩
theorem ofH_eq {i g : Nat} (hi : 1 ≤ i ∧ i < 4294967296) (hg : 1 ≤ g ∧ g < 4294967296) : ofH (i : Int) (g : Int) = hdl i g := (if_pos (by omega)).trans (by rw [Int.toNat_natCast, Int.toNat_natCast])
def StIn (X : Nat → Option Obj) (v : Value) (l : List Ei) : Prop := ∃ (b cap : Nat) (arr : Array Value) (fr : Nat × Nat) (sp : List Value), v = .slice (some ⟨b, 0, none⟩) l.length cap ∧ l.length ≤ cap ∧ X b = some (.cells arr 70 fr) ∧ arr.toList = stL l ++ sp
def FrIn (X : Nat → Option Obj) (v : Value) (w : Nat → Int) (L : Nat) : Prop := ∃ (b cap : Nat) (arr : Array Value) (fr : Nat × Nat) (sp : List Value), v = .slice (some ⟨b, 0, none⟩) L cap ∧ L ≤ cap ∧ X b = some (.cells arr 3 fr) ∧ arr.toList = idL w L ++ sp
def IxIn (H : Nat → Option Obj) (vi vf : Value) (l : List Ei) (v : Nat → Int) (L : Nat) : Prop := ∃ b1 b2 : Nat, LeadsTo H b1 vi 70 2 (stL l) ∧ LeadsTo (cutM H b1) b2 vf 3 1 (idL v L) ∧ FreeH l v L
theorem IxIn.st {X H : Nat → Option Obj} {vi vf : Value} {l : List Ei} {v : Nat → Int} {L : Nat} (h : IxIn H vi vf l v L) : StIn (joinM X H) vi l := by
  obtain ⟨b1, b2, ⟨len, cap, arr, fr, rfl, h2, h3, h4, h5, sp, h6⟩, _⟩ := h
  rw [stL_len] at h2
  have e : len = l.length := by omega
  subst e
  exact ⟨b1, cap, arr, fr, sp, rfl, h3, joinM_in h5, h6⟩
theorem IxIn.fr {X H : Nat → Option Obj} {vi vf : Value} {l : List Ei} {v : Nat → Int} {L : Nat} (h : IxIn H vi vf l v L) : FrIn (joinM X H) vf v L := by
  obtain ⟨b1, b2, _, ⟨len, cap, arr, fr, rfl, h2, h3, h4, h5, sp, h6⟩, _⟩ := h
  rw [idL_len] at h2
  have e : len = L := by omega
  subst e
  exact ⟨b2, cap, arr, fr, sp, rfl, h3, joinM_in (cutM_some h5).2, h6⟩
theorem IxIn.free {H : Nat → Option Obj} {vi vf : Value} {l : List Ei} {v : Nat → Int} {L : Nat} (h : IxIn H vi vf l v L) : FreeH l v L := h.choose_spec.choose_spec.2.2
theorem StIn.more {C : Ctx} {X H : Nat → Option Obj} {v : Value} {l : List Ei} (h : StIn X v l) (hO : OwnedM C X H) : StIn (joinM X H) v l := by
  obtain ⟨b, cap, arr, fr, sp, h1, h2, h3, h4⟩ := h
  refine ⟨b, cap, arr, fr, sp, h1, h2, ?_, h4⟩
  cases hb : H b with
  | none => rw [joinM_out hb]; exact h3
  | some o => rw [(hO.own b o hb).2.2] at h3; cases h3
section
variable {P : Program} {n : Nat} {C : Ctx} {c : Code} {Q : Exit → St → Prop} {X : Nat → Option Obj} {s : List (Nat × LV)} {bx : List (Nat × Option Box)} {k : Nat}
theorem half_open {g : Nat} {l : List Ei}
    (h : ∀ (H : Nat → Option Obj) (vi vf : Value) (v : Nat → Int) (L : Nat), OwnedM C X H → IxIn H vi vf l v L → LWP P n C c Q ⟨s, sxB k g (.val vi) (.val vf) :: bx, joinM X H⟩) :
    LWP P n C c Q ⟨s, xB k g l :: bx, X⟩ := by
  refine LWP.openRes (ix_root g l) fun ρ H vals el fr hR hv hO => ?_
  obtain ⟨h1, fr', vi, vf, b1, b2, v, L, h2, h3, h4, h5⟩ := hR
  rw [hv] at h2
  simp only [Option.some.injEq, Obj.cells.injEq] at h2
  obtain ⟨rfl, rfl, rfl⟩ := h2
  exact h _ vi vf v L (hO.cut _) ⟨b1, b2, h3, h4, h5⟩
theorem half_shut {Mid : St → Prop} {g : Nat} {l : List Ei} {H : Nat → Option Obj} {vi vf : Value} {v : Nat → Int} {L : Nat} (hO : OwnedM C X H) (hI : IxIn H vi vf l v L)
    (h : Leads n C Mid ⟨s, xB k g l :: bx, X⟩) : Leads n C Mid ⟨s, sxB k g (.val vi) (.val vf) :: bx, joinM X H⟩ := by
  refine Leads.closeRes (vals := ixV g vi vf) hO (fun ρ fr g1 g2 g3 => ?_) h
  obtain ⟨b1, b2, h3, h4, h5⟩ := hI
  exact ⟨g3, fr, vi, vf, b1, b2, v, L, withBlock_at _ _ _, by rw [cut_with g1]; exact h3, by rw [cut_with g1]; exact h4, h5⟩
end
theorem st_read {arr : Array Value} {l : List Ei} {sp : List Value} (h : arr.toList = stL l ++ sp) {i : Nat} {x : Ei} (hx : l[i]? = some x) : arr[i * 2]? = some (.int .i64 (genE x : Nat)) ∧ arr[i * 2 + 1]? = some (.bool (livE x)) ∧ i * 2 + 2 ≤ arr.size ∧ ((arr.toList.drop (i * 2)).take 2).map CV.val = (stZ x).map .val := by
  have hi := (List.getElem?_eq_some_iff.1 hx).1
  have hl : (stL (l.take i)).length = i * 2 := by rw [stL_len, List.length_take, Nat.min_eq_left (by omega)]
  have hz : (stZ x).length = 2 := rfl
  have e : arr.toList = stL (l.take i) ++ (stZ x ++ (stL (l.drop (i + 1)) ++ sp)) := by rw [h, stL_split hx, List.append_assoc, List.append_assoc]
  have rd : ∀ k, k < 2 → arr[i * 2 + k]? = (stZ x)[k]? := fun k hk => by
    rw [← Array.getElem?_toList, e, List.getElem?_append_right (by omega), hl, show i * 2 + k - i * 2 = k by omega, List.getElem?_append_left (by omega)]
  refine ⟨rd 0 (by omega), rd 1 (by omega), ?_, ?_⟩
  · rw [← Array.length_toList, e, List.length_append, hl, List.length_append, hz]; omega
  · rw [e, ← hl, List.drop_left]; rfl
theorem fr_read {arr : Array Value} {v : Nat → Int} {L : Nat} {sp : List Value} (h : arr.toList = idL v L ++ sp) {i : Nat} (hi : i < L) : arr[i]? = some (.int .i64 (v i)) := by
  rw [← Array.getElem?_toList, h, List.getElem?_append_left (by rw [idL_len]; exact hi)]
  unfold idL
  rw [List.getElem?_map, listV_at v hi]; rfl
theorem eqSt {a a' : Int} {b b' : Bool} (r : Bool) (hr : (a == a' && b == b') = r) (w : World) :
    (Op.equalIn 10000 70 (.agg [.int .i64 a, .bool b].toArray) (.agg [.int .i64 a', .bool b'].toArray)).run Try.prog w = .ok r w := by
  subst hr
  rw [show (10000 : Nat) = 9999 + 1 from rfl, run_equalIn_agg w 9999 70 _ _ (by kernel_rfl) (by kernel_rfl)]
  simp only [Program.fieldsOf, Try.underlying70]
  go_simp
  cases b <;> cases b' <;> by_cases h1 : a = a' <;> simp [h1]
end Go.Proofs.Ytkdbkgfdggbhkaa
end
section
namespace Go.Proofs.Ytkdbkgfdggbhkaa
open Go Go.Lg
set_option maxRecDepth 100000
abbrev Lxs (ad : Option Addr) (n cap : Nat) : LV := .sv (.one (.val (.slice ad n cap)))
abbrev lvMade (L : List Nat) : Bool := !L.isEmpty
theorem lvMade_nil {L : List Nat} (h : lvMade L = false) : L = [] := by
  cases L with
  | nil => rfl
  | cons => cases h
abbrev lvB (k : Nat) (L : List Nat) : Nat × Option Box := (k, some ⟨27, (u64V L).map .val, true⟩)
def nextH (l : List Ei) : Nat := match nextE l with | some i => hdl (i + 1) (match l[i]? with | some x => x.1 | none => 0) | none => 0
theorem nextH_some {l : List Ei} {i gen st : Nat} (h : nextE l = some i) (hx : l[i]? = some (gen, st)) : nextH l = hdl (i + 1) gen := by unfold nextH; rw [h]; simp only; rw [hx]
theorem nextH_none {l : List Ei} (h : nextE l = none) : nextH l = 0 := by unfold nextH; rw [h]
theorem free_none {l : List Ei} : nextE l = none ↔ freE l = 0 := by
  unfold nextE freE
  rw [List.findIdx?_eq_none_iff, List.countP_eq_zero]
  constructor
  · intro h x hx; rw [h x hx]; decide
  · intro h x hx; simpa using h x hx
variable (X : Nat → Option Obj)
theorem lLenX (ad : Option Addr) (n cap : Nat) : PSpec Try.prog X 33 [Lxs ad n cap] (Ln .i64 (n : Nat)) := by
  refine PSpec.intro Try.func33 rfl (by kernel_rfl) rfl rfl ?_
  intro C
  (refine LWP.seq <| LWP.region (by kernel_rfl) <| kas rfl <| RunK.nil <| LWP.seq <| LWP.region (by kernel_rfl) <| kmv rfl <| K.lenX rfl SliceT.h rfl .plain ?_; refine kas rfl <| RunK.nil <| LWP.ret ?_)
  exact ⟨[_], ⟨rfl, trivial⟩, rfl⟩
theorem iHandle (g : Nat) (l : List Ei) (vi vf : Value) (i : Nat) (x : Ei) (hI : StIn X vi l) (hx : l[i]? = some x) (hi : i < 256) (hg : 1 ≤ genE x ∧ genE x < 4294967296) :
    MSpec Try.prog X 32 [Lp 1000000, Ln .i64 (i + 1 : Nat)] [sxB 1000000 g (.val vi) (.val vf)] (Ln .u64 (hdl (i + 1) (genE x) : Nat)) [sxB 1000000 g (.val vi) (.val vf)] := by
  obtain ⟨b, cap, arr, fr, sp, rfl, hcap, hX, harr⟩ := hI
  obtain ⟨r0, r1, r2, r3⟩ := st_read harr hx
  have hlt := (List.getElem?_eq_some_iff.1 hx).1
  have hO := iOf X ((i + 1 : Nat) : Int) (genE x : Nat)
  rw [ofH_eq (by omega) hg] at hO
  have hsub : IntKind.i64.wrap (((i + 1 : Nat) : Int) - 1) = ((i : Nat) : Int) := by rw [wrap_i64 (by omega)]; omega
  have hix : 0 + Int.toNat ((i : Nat) : Int) * 2 = i * 2 := by simp
  refine MSpec.intro Try.func32 rfl (by kernel_rfl) rfl rfl (by exact (by repeat' (first | refine all_cons_true ?_ ?_ | rfl | exact bytes_inUse | exact vals_inUse | exact mid_inUse rfl))) rfl rfl ?_
  intro C
  (refine LWP.seq <| LWP.region (by kernel_rfl) <| kas rfl <| RunK.nil <| LWP.seq <| LWP.region (by kernel_rfl) <| kmv rfl <| kmv rfl <| K.nilCheck rfl .plain <| kfa rfl rfl ?_; refine kl1 rfl rfl rfl <| kmv rfl <| K.sub rfl rfl hsub .plain <| K.indexX rfl rfl SliceT.h (by omega) hix .plain <| K.fieldAddrX rfl rfl .plain ?_; refine K.loadX rfl hX (by kernel_rfl) r0 .plain <| kca rfl rfl (hO) <| kas rfl <| RunK.nil <| LWP.ret ?_)
  exact ⟨[], ⟨[_], ⟨rfl, trivial⟩, rfl⟩, (by repeat' (first | exact trivial | refine And.intro ⟨_, rfl, ?_⟩ ?_ | refine And.intro ⟨_, rfl⟩ ?_ | rfl | exact Box.ren_bytes _ _ _ _ | exact Box.ren_vals _ _ _ _ | exact Box.ren_mid rfl)), rfl, rfl⟩
theorem iFree_nil : PSpec Try.prog X 14 [Lnil] (Ln .i64 0) := by
  refine PSpec.intro Try.func14 rfl (by kernel_rfl) rfl rfl ?_
  intro C
  (refine LWP.seq <| LWP.region (by kernel_rfl) <| kas rfl <| RunK.nil <| LWP.seq <| LWP.seq <| LWP.region (by kernel_rfl) <| kmv rfl <| K.nilNil rfl (by kernel_rfl) (.inl ⟨rfl, rfl⟩) .plain <| RunK.nil <| LWP.condT rfl ?_; refine LWP.seq <| LWP.region (by kernel_rfl) <| kas rfl <| RunK.nil <| LWP.ret ?_)
  exact ⟨[_], ⟨rfl, trivial⟩, rfl⟩
theorem iFree (g : Nat) (l : List Ei) (_ : OkX g l) : MSpec Try.prog X 14 [Lp 1000000] [xB 1000000 g l] (Ln .i64 (freE l : Nat)) [xB 1000000 g l] := by
  refine MSpec.intro Try.func14 rfl (by kernel_rfl) rfl rfl (by exact (by repeat' (first | refine all_cons_true ?_ ?_ | rfl | exact bytes_inUse | exact vals_inUse | exact mid_inUse rfl))) rfl rfl ?_
  intro C
  refine LWP.ends (half_open fun H vi vf v L hO hI => ?_)
  obtain ⟨b, cap, arr, fr, sp, rfl, _⟩ := hI.fr (X := X)
  rw [← hI.free.len]
  have hL := lLenX (joinM X H) (some ⟨b, 0, none⟩) L cap
  (refine LWP.seq <| LWP.region (by kernel_rfl) <| kas rfl <| RunK.nil <| LWP.seq <| LWP.seq <| LWP.region (by kernel_rfl) <| kmv rfl <| K.ptrNil rfl (by kernel_rfl) (.inl ⟨rfl, rfl⟩) .plain <| RunK.nil <| LWP.condF rfl ?_; refine LWP.skip ?_; refine LWP.seq <| LWP.region (by kernel_rfl) <| kmv rfl <| K.nilCheck rfl .plain <| kfa rfl rfl ?_; refine kl1 rfl rfl rfl <| kca rfl rfl (hL) <| kas rfl <| RunK.nil <| LWP.ret ?_)
  refine half_shut hO hI (Leads.done ?_)
  exact ⟨[], ⟨[_], ⟨rfl, trivial⟩, rfl⟩, (by repeat' (first | exact trivial | refine And.intro ⟨_, rfl, ?_⟩ ?_ | refine And.intro ⟨_, rfl⟩ ?_ | rfl | exact Box.ren_bytes _ _ _ _ | exact Box.ren_vals _ _ _ _ | exact Box.ren_mid rfl)), rfl, rfl⟩
theorem iNext_nil : PSpec Try.prog X 15 [Lnil] (Ln .u64 0) := by
  have hF := iFree_nil X
  refine PSpec.intro Try.func15 rfl (by kernel_rfl) rfl rfl ?_
  intro C
  (refine LWP.seq <| LWP.region (by kernel_rfl) <| kas rfl <| RunK.nil <| LWP.seq <| LWP.seq <| LWP.region (by kernel_rfl) <| kmv rfl <| kca rfl rfl (hF) <| keq rfl rfl (beq_iff_eq.2 (by omega)) <| RunK.nil <| LWP.condT rfl ?_; refine LWP.seq <| LWP.region (by kernel_rfl) <| kas rfl <| RunK.nil <| LWP.ret ?_)
  exact ⟨[_], ⟨rfl, trivial⟩, rfl⟩
set_option maxHeartbeats 3200000 in
theorem iNext (g : Nat) (l : List Ei) (hk : OkX g l) : MSpec Try.prog X 15 [Lp 1000000] [xB 1000000 g l] (Ln .u64 (nextH l : Nat)) [xB 1000000 g l] := by
  have hF := iFree X g l hk
  refine MSpec.intro Try.func15 rfl (by kernel_rfl) rfl rfl (by exact (by repeat' (first | refine all_cons_true ?_ ?_ | rfl | exact bytes_inUse | exact vals_inUse | exact mid_inUse rfl))) rfl rfl ?_
  intro C
  refine LWP.ends ?_
  cases hn : nextE l with
  | none =>
    rw [nextH_none hn]
    rw [free_none.1 hn] at hF
    (refine LWP.seq <| LWP.region (by kernel_rfl) <| kas rfl <| RunK.nil <| LWP.seq <| LWP.seq <| LWP.region (by kernel_rfl) <| kmv rfl <| K.callR [(1000000, 1000000)] (hF) rfl rfl (by exact (And.intro ⟨_, rfl, rfl⟩ trivial)) (by exact (all_cons_true rfl rfl)) rfl rfl rfl rfl .plain <| keq rfl rfl (beq_iff_eq.2 (by omega)) <| RunK.nil <| LWP.condT rfl ?_; refine LWP.seq <| LWP.region (by kernel_rfl) <| kas rfl <| RunK.nil <| LWP.ret ?_)
    exact Leads.done ⟨[], ⟨[_], ⟨rfl, trivial⟩, rfl⟩, (by repeat' (first | exact trivial | refine And.intro ⟨_, rfl, ?_⟩ ?_ | refine And.intro ⟨_, rfl⟩ ?_ | rfl | exact Box.ren_bytes _ _ _ _ | exact Box.ren_vals _ _ _ _ | exact Box.ren_mid rfl)), rfl, rfl⟩
  | some i =>
    obtain ⟨gen, hx, _⟩ := next_at hn
    rw [nextH_some hn hx]
    have hpos : freE l ≠ 0 := fun e => by rw [free_none.2 e] at hn; cases hn
    have hne : (((freE l : Nat) : Int) == 0) = false := beq_eq_false_iff_ne.2 (by omega)
    (refine LWP.seq <| LWP.region (by kernel_rfl) <| kas rfl <| RunK.nil <| LWP.seq <| LWP.seq <| LWP.region (by kernel_rfl) <| kmv rfl <| K.callR [(1000000, 1000000)] (hF) rfl rfl (by exact (And.intro ⟨_, rfl, rfl⟩ trivial)) (by exact (all_cons_true rfl rfl)) rfl rfl rfl rfl .plain <| keq rfl rfl hne <| RunK.nil <| LWP.condF rfl ?_; refine LWP.skip ?_; refine LWP.seq ?_)
    refine LWP.le (σ' := ⟨[(0, Lp 1000000)], [xB 1000000 g l], X⟩) (Le.of (by exact ⟨rfl, trivial⟩) (by exact ⟨rfl, trivial⟩) (by exact rfl) (by exact rfl) (by exact rfl)) ?_
    refine half_open fun H vi vf v L hO hI => ?_
    have hroot := hI.free.root hn
    have hlen := hI.free.len
    have hgx : genE (gen, 0) = gen := rfl
    have hgo := (hk.ok _ (List.mem_of_getElem? hx)).1
    have hgb := hk.gens
    have hids := hk.ids
    have hlt := (List.getElem?_eq_some_iff.1 hx).1
    have hH := iHandle (joinM X H) g l vi vf i (gen, 0) hI.st hx (by omega) (by rw [hgx]; exact ⟨hgo.1, by have : gen ≤ g := hgo.2; omega⟩)
    rw [hgx] at hH
    obtain ⟨b, cap, arr, fr, sp, rfl, hcap, hX, harr⟩ := hI.fr (X := X)
    have h0 := fr_read harr (i := 0) (by omega)
    rw [hroot] at h0
    have hix : 0 + Int.toNat (0 : Int) * 1 = 0 := rfl
    (refine LWP.region (by kernel_rfl) <| kmv rfl <| kmv rfl <| K.nilCheck rfl .plain <| kfa rfl rfl ?_; refine kl1 rfl rfl rfl <| K.indexX rfl rfl SliceT.h (by omega) hix .plain <| K.loadX rfl hX (by kernel_rfl) h0 .plain <| K.callR [(1000000, 1000000)] (hH) rfl rfl (by exact (And.intro ⟨_, rfl, rfl⟩ trivial)) (by exact (all_cons_true (all_cons_true rfl (all_cons_true rfl (all_cons_true rfl rfl))) rfl)) rfl rfl rfl rfl .plain <| kas rfl <| RunK.nil <| LWP.ret ?_)
    refine half_shut hO hI (Leads.done ?_)
    exact ⟨[], ⟨[_], ⟨rfl, trivial⟩, rfl⟩, (by repeat' (first | exact trivial | refine And.intro ⟨_, rfl, ?_⟩ ?_ | refine And.intro ⟨_, rfl⟩ ?_ | rfl | exact Box.ren_bytes _ _ _ _ | exact Box.ren_vals _ _ _ _ | exact Box.ren_mid rfl)), rfl, rfl⟩
theorem iAlive_nil (h : Nat) : PSpec Try.prog X 11 [Lnil, Ln .u64 (h : Nat)] (Lb false) := by
  have hI := iId_any X (h : Int)
  generalize IntKind.i64.wrap (bits .and .u64 (h : Int) 4294967295) = q at *
  refine PSpec.intro Try.func11 rfl (by kernel_rfl) rfl rfl ?_
  intro C
  (refine LWP.seq <| LWP.region (by kernel_rfl) <| kas rfl <| RunK.nil <| LWP.seq <| LWP.region (by kernel_rfl) <| kmv rfl <| kca rfl rfl (hI) <| kas rfl <| RunK.nil <| LWP.seq <| LWP.seq <| LWP.region (by kernel_rfl) <| kmv rfl ?_; refine K.nilNil rfl (by kernel_rfl) (.inl ⟨rfl, rfl⟩) .plain <| kmv rfl <| RunK.passed rfl rfl rfl <| RunK.passed rfl rfl rfl <| kpt rfl rfl <| kmv rfl <| RunK.passed rfl rfl rfl <| RunK.passed rfl rfl rfl <| RunK.passed rfl rfl rfl <| RunK.passed rfl rfl rfl <| RunK.passed rfl rfl rfl <| RunK.passed rfl rfl rfl <| RunK.passed rfl rfl rfl <| kpt rfl rfl ?_; refine RunK.nil <| LWP.condT rfl ?_; refine LWP.seq <| LWP.region (by kernel_rfl) <| kas rfl <| RunK.nil <| LWP.ret ?_)
  exact ⟨[_], ⟨rfl, trivial⟩, rfl⟩
set_option maxHeartbeats 3200000 in
theorem iAlive (g : Nat) (l : List Ei) (hk : OkX g l) (h : Nat) (hh : h < 18446744073709551616) : MSpec Try.prog X 11 [Lp 1000000, Ln .u64 (h : Nat)] [xB 1000000 g l] (Lb (aliveB l h)) [xB 1000000 g l] := by
  have hId : ∀ Y, PSpec Try.prog Y 28 [Ln .u64 (h : Nat)] (Ln .i64 (h % 4294967296 : Nat)) := fun Y => iId Y h hh
  have hGe : ∀ Y, PSpec Try.prog Y 29 [Ln .u64 (h : Nat)] (Ln .i64 (h / 4294967296 : Nat)) := fun Y => iGen Y h hh
  unfold aliveB
  have hlt : h % 4294967296 < 4294967296 := Nat.mod_lt _ (by decide)
  generalize h % 4294967296 = id at *
  generalize h / 4294967296 = q at *
  refine MSpec.intro Try.func11 rfl (by kernel_rfl) rfl rfl (by exact (by repeat' (first | refine all_cons_true ?_ ?_ | rfl | exact bytes_inUse | exact vals_inUse | exact mid_inUse rfl))) rfl rfl ?_
  intro C
  refine LWP.ends (half_open fun H vi vf v L hO hI => ?_)
  have hId := hId (joinM X H)
  have hGe := hGe (joinM X H)
  obtain ⟨b, cap, arr, fr, sp, rfl, hcap, hX, harr⟩ := hI.st (X := X)
  by_cases c0 : id = 0
  · rw [show aliveP l id q = false by unfold aliveP whoE; rw [if_pos c0]]
    (refine LWP.seq <| LWP.region (by kernel_rfl) <| kas rfl <| RunK.nil <| LWP.seq <| LWP.region (by kernel_rfl) <| kmv rfl <| kca rfl rfl (hId) <| kas rfl <| RunK.nil <| LWP.seq <| LWP.seq <| LWP.region (by kernel_rfl) <| kmv rfl ?_; refine K.ptrNil rfl (by kernel_rfl) (.inl ⟨rfl, rfl⟩) .plain <| kmv rfl <| gmv rfl rfl rfl <| K.lss rfl rfl (decide_eq_true (by omega)) (.taken rfl rfl) ?_; refine kpf rfl rfl <| kmv rfl <| RunK.passed rfl rfl rfl <| RunK.passed rfl rfl rfl <| RunK.passed rfl rfl rfl <| RunK.passed rfl rfl rfl <| RunK.passed rfl rfl rfl <| RunK.passed rfl rfl rfl <| RunK.passed rfl rfl rfl <| kpt rfl rfl <| RunK.nil <| LWP.condT rfl ?_; refine LWP.seq <| LWP.region (by kernel_rfl) <| kas rfl <| RunK.nil <| LWP.ret ?_)
    refine half_shut hO hI (Leads.done ?_)
    exact ⟨[], ⟨[_], ⟨rfl, trivial⟩, rfl⟩, (by repeat' (first | exact trivial | refine And.intro ⟨_, rfl, ?_⟩ ?_ | refine And.intro ⟨_, rfl⟩ ?_ | rfl | exact Box.ren_bytes _ _ _ _ | exact Box.ren_vals _ _ _ _ | exact Box.ren_mid rfl)), rfl, rfl⟩
  by_cases c1 : l.length < id
  · rw [show aliveP l id q = false by unfold aliveP whoE; rw [if_neg c0, List.getElem?_eq_none (by omega)]]
    (refine LWP.seq <| LWP.region (by kernel_rfl) <| kas rfl <| RunK.nil <| LWP.seq <| LWP.region (by kernel_rfl) <| kmv rfl <| kca rfl rfl (hId) <| kas rfl <| RunK.nil <| LWP.seq <| LWP.seq <| LWP.region (by kernel_rfl) <| kmv rfl ?_; refine K.ptrNil rfl (by kernel_rfl) (.inl ⟨rfl, rfl⟩) .plain <| kmv rfl <| gmv rfl rfl rfl <| K.lss rfl rfl (decide_eq_false (by omega)) (.taken rfl rfl) ?_; refine kpf rfl rfl <| kmv rfl <| gmv rfl rfl rfl <| gmv rfl rfl rfl <| K.nilCheck rfl (.taken rfl rfl) ?_; refine K.fieldAddr rfl rfl (.taken rfl rfl) ?_; refine K.loadOne rfl rfl rfl (.taken rfl rfl) ?_; refine K.lenX rfl SliceT.h rfl (.taken rfl rfl) ?_; refine K.gtr rfl rfl (decide_eq_true (by omega)) (.taken rfl rfl) ?_; refine kpf rfl rfl <| RunK.nil <| LWP.condT rfl ?_; refine LWP.seq <| LWP.region (by kernel_rfl) <| kas rfl <| RunK.nil <| LWP.ret ?_)
    refine half_shut hO hI (Leads.done ?_)
    exact ⟨[], ⟨[_], ⟨rfl, trivial⟩, rfl⟩, (by repeat' (first | exact trivial | refine And.intro ⟨_, rfl, ?_⟩ ?_ | refine And.intro ⟨_, rfl⟩ ?_ | rfl | exact Box.ren_bytes _ _ _ _ | exact Box.ren_vals _ _ _ _ | exact Box.ren_mid rfl)), rfl, rfl⟩
  obtain ⟨i, rfl⟩ : ∃ i, id = i + 1 := ⟨id - 1, by omega⟩
  obtain ⟨⟨gen, st⟩, hx⟩ : ∃ x, l[i]? = some x := ⟨_, List.getElem?_eq_getElem (by omega)⟩
  obtain ⟨r0, r1, r2, r3⟩ := st_read harr hx
  have hids := hk.ids
  have hsub : IntKind.i64.wrap (((i + 1 : Nat) : Int) - 1) = ((i : Nat) : Int) := by rw [wrap_i64 (by omega)]; omega
  have hix : 0 + Int.toNat ((i : Nat) : Int) * 2 = i * 2 := by simp
  have hP : aliveP l (i + 1) q = (st == 1 && gen == q) := by unfold aliveP; rw [who_suc, hx]; rfl
  have hq : (((genE (gen, st) : Nat) : Int) == ((q : Nat) : Int) && livE (gen, st) == true) = aliveP l (i + 1) q := by
    rw [hP]
    unfold genE livE
    by_cases e : st = 1
    · subst e
      rw [Bool.eq_iff_iff]
      simp
      try omega
    · rw [show (st == 1) = false from beq_eq_false_iff_ne.2 e]
      simp
  replace r3 : ((arr.toList.drop (i * 2)).take 2).map CV.val = [.val (.int .i64 (genE (gen, st) : Nat)), .val (.bool (livE (gen, st)))] := r3
  generalize aliveP l (i + 1) q = ans at *
  generalize genE (gen, st) = ge at *
  generalize livE (gen, st) = li at *
  have qe := eqSt (a := (ge : Nat)) (a' := (q : Nat)) (b := li) (b' := true) ans hq
  (refine LWP.seq <| LWP.region (by kernel_rfl) <| kas rfl <| RunK.nil <| LWP.seq <| LWP.region (by kernel_rfl) <| kmv rfl <| kca rfl rfl (hId) <| kas rfl <| RunK.nil <| LWP.seq <| LWP.seq <| LWP.region (by kernel_rfl) <| kmv rfl ?_; refine K.ptrNil rfl (by kernel_rfl) (.inl ⟨rfl, rfl⟩) .plain <| kmv rfl <| gmv rfl rfl rfl <| K.lss rfl rfl (decide_eq_false (by omega)) (.taken rfl rfl) ?_; refine kpf rfl rfl <| kmv rfl <| gmv rfl rfl rfl <| gmv rfl rfl rfl <| K.nilCheck rfl (.taken rfl rfl) ?_; refine K.fieldAddr rfl rfl (.taken rfl rfl) ?_; refine K.loadOne rfl rfl rfl (.taken rfl rfl) ?_; refine K.lenX rfl SliceT.h rfl (.taken rfl rfl) ?_; refine K.gtr rfl rfl (decide_eq_false (by omega)) (.taken rfl rfl) ?_; refine kpf rfl rfl <| RunK.nil <| LWP.condF rfl ?_; refine LWP.skip ?_; refine LWP.seq <| LWP.draws mixed (by kernel_rfl) <| kmv rfl <| K.nilCheck rfl .plain <| kfa rfl rfl ?_; refine kl1 rfl rfl rfl <| kmv rfl <| K.sub rfl rfl hsub .plain <| K.indexX rfl rfl SliceT.h (by omega) hix .plain <| K.loadXagg rfl hX (by kernel_rfl) r2 r3 .plain <| kmv rfl <| kca rfl rfl (hGe) <| K.build rfl rfl (by exact rfl) (by exact nl2 rfl rfl rfl) .plain ?_; refine K.aggEq (us := [.int .i64 (ge : Nat), .bool li]) (vs := [.int .i64 (q : Nat), .bool true]) rfl rfl rfl rfl (by kernel_rfl) qe (.inl ⟨rfl, rfl⟩) .plain <| kas rfl <| RunK.nil <| And.intro (by kernel_rfl) ?_; refine LWP.ret ?_)
  refine half_shut hO hI (Leads.done ?_)
  exact ⟨[], ⟨[_], ⟨rfl, trivial⟩, rfl⟩, (by repeat' (first | exact trivial | refine And.intro ⟨_, rfl, ?_⟩ ?_ | refine And.intro ⟨_, rfl⟩ ?_ | rfl | exact Box.ren_bytes _ _ _ _ | exact Box.ren_vals _ _ _ _ | exact Box.ren_mid rfl)), rfl, rfl⟩
end Go.Proofs.Ytkdbkgfdggbhkaa
end
section
namespace Go.Proofs.Ytkdbkgfdggbhkaa
open Go Go.Lg
set_option maxRecDepth 100000
def mkE (n j : Nat) : List Ei := List.replicate j (1, 0) ++ List.replicate (n - j) (0, 0)
theorem mkE_len {n j : Nat} (h : j ≤ n) : (mkE n j).length = n := by unfold mkE; rw [List.length_append, List.length_replicate, List.length_replicate]; omega
theorem mkE_at {n j : Nat} (h : j < n) : (mkE n j)[j]? = some (0, 0) := by
  unfold mkE
  rw [List.getElem?_append_right (by rw [List.length_replicate]; omega), List.length_replicate, Nat.sub_self, List.getElem?_replicate, if_pos (by omega)]
theorem mkE_set {n j : Nat} (h : j < n) : (mkE n j).set j (1, 0) = mkE n (j + 1) := by
  unfold mkE
  rw [List.set_append_right _ _ (by rw [List.length_replicate]; omega), List.length_replicate, Nat.sub_self, show n - j = (n - (j + 1)) + 1 by omega, List.replicate_succ, List.set_cons_zero, List.replicate_succ', List.append_assoc]
  rfl
theorem mkE_all (n : Nat) : mkE n n = newE n := by unfold mkE newE; rw [Nat.sub_self, List.replicate_zero, List.append_nil]
theorem mkE_none (n : Nat) : stL (mkE n 0) = (List.replicate n [Value.int .i64 0, .bool false]).flatten := by
  unfold stL mkE
  rw [List.replicate_zero, List.nil_append, Nat.sub_zero, List.map_replicate]
  rfl
theorem stL_put {l : List Ei} {i k : Nat} {x y : Ei} {v : Value} (h : l[i]? = some x) (hk : k < 2) (e : (stZ x).set k v = stZ y) : ((stL l).map CV.val).set (i * 2 + k) (.val v) = (stL (l.set i y)).map .val := by
  have hi := (List.getElem?_eq_some_iff.1 h).1
  have hl : (stL (l.take i)).length = i * 2 := by rw [stL_len, List.length_take, Nat.min_eq_left (by omega)]
  rw [← List.map_set, stL_set hi, stL_split h]
  congr 1
  rw [List.set_append_right _ _ (by omega), hl, show i * 2 + k - i * 2 = k by omega, List.set_append_left _ _ (by exact hk), e]
theorem idL_put (v : Nat → Int) {m i : Nat} (h : i < m) (x : Int) : ((idL v m).map CV.val).set i (.val (.int .i64 x)) = (idL (setV v i x) m).map .val := by
  rw [← idL_splice v h x]
  have hl : i < ((idL v m).map CV.val).length := by rw [List.length_map, idL_len]; exact h
  unfold splice
  rw [List.set_eq_take_append_cons_drop, if_pos hl, List.append_assoc]
  rfl
def putF (j : Nat) : Nat → Int := fun k => if k < j then ((k + 1 : Nat) : Int) else 0
theorem putF_next (j : Nat) : setV (putF j) j ((j + 1 : Nat) : Int) = putF (j + 1) := by
  funext k
  unfold setV putF
  by_cases h1 : k = j
  · subst h1; rw [if_pos rfl, if_pos (by omega)]
  · rw [if_neg h1]
    by_cases h2 : k < j
    · rw [if_pos h2, if_pos (by omega)]
    · rw [if_neg h2, if_neg (by omega)]
theorem putF_none (n : Nat) : idL (putF 0) n = List.replicate n (Value.int .i64 0) := by
  unfold idL
  rw [listV_congr (v := putF 0) (w := fun _ => (0 : Int)) fun k _ => show putF 0 k = 0 from if_neg (by omega)]
  unfold listV
  rw [List.map_map]
  show List.map (fun _ => Value.int .i64 0) (List.range n) = _
  rw [List.map_const', List.length_range]
theorem putF_all (n : Nat) : idL (putF n) n = idL (fun i => ((i + 1 : Nat) : Int)) n := by
  unfold idL
  rw [listV_congr fun k hk => show putF n k = ((k + 1 : Nat) : Int) from if_pos hk]
variable (X : Nat → Option Obj)
theorem iNew_no (ids gens : Int) (h : ids < 1 ∨ 256 < ids ∨ gens < 1 ∨ 65535 < gens) : PSpec Try.prog X 8 [Ln .i64 ids, Ln .i64 gens] Lnil := by
  refine PSpec.intro Try.func8 rfl (by kernel_rfl) rfl rfl ?_
  intro C
  by_cases c1 : ids < 1
  · (refine LWP.seq <| LWP.region (by kernel_rfl) <| kas rfl <| RunK.nil <| LWP.seq <| LWP.seq <| LWP.region (by kernel_rfl) <| kmv rfl <| klt rfl rfl (decide_eq_true c1) <| kmv rfl <| RunK.passed rfl rfl rfl <| RunK.passed rfl rfl rfl <| kpt rfl rfl <| kmv rfl ?_; refine RunK.passed rfl rfl rfl <| RunK.passed rfl rfl rfl <| kpt rfl rfl <| kmv rfl <| RunK.passed rfl rfl rfl <| RunK.passed rfl rfl rfl <| kpt rfl rfl <| RunK.nil <| LWP.condT rfl ?_; refine LWP.seq <| LWP.region (by kernel_rfl) <| kas rfl <| RunK.nil <| LWP.ret ?_)
    exact ⟨[_], ⟨rfl, trivial⟩, rfl⟩
  by_cases c2 : 256 < ids
  · (refine LWP.seq <| LWP.region (by kernel_rfl) <| kas rfl <| RunK.nil <| LWP.seq <| LWP.seq <| LWP.region (by kernel_rfl) <| kmv rfl <| klt rfl rfl (decide_eq_false c1) <| kmv rfl <| gmv rfl rfl rfl <| K.gtr rfl rfl (decide_eq_true c2) (.taken rfl rfl) ?_; refine kpf rfl rfl <| kmv rfl <| RunK.passed rfl rfl rfl <| RunK.passed rfl rfl rfl <| kpt rfl rfl <| kmv rfl <| RunK.passed rfl rfl rfl <| RunK.passed rfl rfl rfl <| kpt rfl rfl <| RunK.nil <| LWP.condT rfl ?_; refine LWP.seq <| LWP.region (by kernel_rfl) <| kas rfl <| RunK.nil <| LWP.ret ?_)
    exact ⟨[_], ⟨rfl, trivial⟩, rfl⟩
  by_cases c3 : gens < 1
  · (refine LWP.seq <| LWP.region (by kernel_rfl) <| kas rfl <| RunK.nil <| LWP.seq <| LWP.seq <| LWP.region (by kernel_rfl) <| kmv rfl <| klt rfl rfl (decide_eq_false c1) <| kmv rfl <| gmv rfl rfl rfl <| K.gtr rfl rfl (decide_eq_false c2) (.taken rfl rfl) ?_; refine kpf rfl rfl <| kmv rfl <| gmv rfl rfl rfl <| K.lss rfl rfl (decide_eq_true c3) (.taken rfl rfl) ?_; refine kpf rfl rfl <| kmv rfl <| RunK.passed rfl rfl rfl <| RunK.passed rfl rfl rfl <| kpt rfl rfl <| RunK.nil <| LWP.condT rfl ?_; refine LWP.seq <| LWP.region (by kernel_rfl) <| kas rfl <| RunK.nil <| LWP.ret ?_)
    exact ⟨[_], ⟨rfl, trivial⟩, rfl⟩
  have c4 : 65535 < gens := by omega
  (refine LWP.seq <| LWP.region (by kernel_rfl) <| kas rfl <| RunK.nil <| LWP.seq <| LWP.seq <| LWP.region (by kernel_rfl) <| kmv rfl <| klt rfl rfl (decide_eq_false c1) <| kmv rfl <| gmv rfl rfl rfl <| K.gtr rfl rfl (decide_eq_false c2) (.taken rfl rfl) ?_; refine kpf rfl rfl <| kmv rfl <| gmv rfl rfl rfl <| K.lss rfl rfl (decide_eq_false c3) (.taken rfl rfl) ?_; refine kpf rfl rfl <| kmv rfl <| gmv rfl rfl rfl <| K.gtr rfl rfl (decide_eq_true c4) (.taken rfl rfl) ?_; refine kpf rfl rfl <| RunK.nil <| LWP.condT rfl ?_; refine LWP.seq <| LWP.region (by kernel_rfl) <| kas rfl <| RunK.nil <| LWP.ret ?_)
  exact ⟨[_], ⟨rfl, trivial⟩, rfl⟩
abbrev nwSt (g n j : Nat) (Y : Nat → Option Obj) : St := ⟨[(5, Lp 27), (32, Ln .i64 (n : Nat)), (33, Ln .i64 (j : Nat))], [sxB 27 g (.slc 23 0 n 2) (.slc 25 0 n 1), (25, some ⟨3, (idL (putF j) n).map .val, false⟩), (23, some ⟨70, (stL (mkE n j)).map .val, false⟩)], Y⟩
set_option maxHeartbeats 6400000 in
theorem iNew (n g : Nat) (hn : 1 ≤ n ∧ n ≤ 256) (hg : 1 ≤ g ∧ g ≤ 65535) : MSpec Try.prog X 8 [Ln .i64 (n : Nat), Ln .i64 (g : Nat)] [] (Lp 1000001) [xB 1000001 g (newE n)] := by
  have hmk : slcBuild Try.prog 65 n = some (stL (mkE n 0), 2, 70) := by
    rw [mkE_none]
    exact slcBuild_many (z := #[.int .i64 0, .bool false]) (by kernel_rfl) (by kernel_rfl) rfl (by omega)
  have hmf : slcBuild Try.prog 66 n = some (idL (putF 0) n, 1, 3) := by
    rw [putF_none]
    exact slcBuild_one (by kernel_rfl) (by kernel_rfl) (by omega)
  refine MSpec.intro Try.func8 rfl (by kernel_rfl) rfl rfl (by exact (by repeat' (first | refine all_cons_true ?_ ?_ | rfl | exact bytes_inUse | exact vals_inUse | exact mid_inUse rfl))) rfl rfl ?_
  intro C
  refine LWP.ends ?_
  (refine LWP.seq <| LWP.region (by kernel_rfl) <| kas rfl <| RunK.nil <| LWP.seq <| LWP.seq <| LWP.region (by kernel_rfl) <| kmv rfl <| klt rfl rfl (decide_eq_false (by omega)) <| kmv rfl <| gmv rfl rfl rfl <| K.gtr rfl rfl (decide_eq_false (by omega)) (.taken rfl rfl) ?_; refine kpf rfl rfl <| kmv rfl <| gmv rfl rfl rfl <| K.lss rfl rfl (decide_eq_false (by omega)) (.taken rfl rfl) ?_; refine kpf rfl rfl <| kmv rfl <| gmv rfl rfl rfl <| K.gtr rfl rfl (decide_eq_false (by omega)) (.taken rfl rfl) ?_; refine kpf rfl rfl <| RunK.nil <| LWP.condF rfl ?_; refine LWP.skip ?_; refine LWP.seq <| LWP.draws mixed (by kernel_rfl) <| kmv rfl <| kmv rfl <| K.makeSlc (m := n) (bytes := 16) rfl rfl hmk (by kernel_rfl) (by omega) rfl rfl .plain <| kmv rfl <| K.makeSlc (m := n) (bytes := 8) rfl rfl hmf (by kernel_rfl) (by omega) rfl rfl .plain <| K.build rfl rfl (by exact rfl) (by exact nl3 rfl rfl rfl rfl) .plain ?_; refine K.box rfl rfl rfl .plain <| kas rfl <| RunK.nil <| And.intro (by kernel_rfl) ?_; refine LWP.seq <| LWP.seq <| LWP.region (by kernel_rfl) <| kmv rfl <| K.nilCheck rfl .plain <| kfa rfl rfl ?_; refine kl1 rfl rfl rfl <| K.lenSlc rfl SliceT.h rfl .plain ?_; refine kmv rfl <| RunK.nil <| LWP.block ?_)
  refine LWP.loop (fun m σ => ∃ j : Nat, j ≤ n ∧ m = n - j ∧ σ = nwSt g n j X) n
    ⟨nwSt g n 0 X, Le.of (by exact ⟨rfl, rfl, rfl, trivial⟩) (by exact ⟨rfl, rfl, rfl, trivial⟩) (by exact rfl) (by exact rfl) (by repeat' (first | refine all_cons_true ?_ ?_ | rfl | exact bytes_inUse | exact vals_inUse | exact mid_inUse rfl)), 0, by omega, by omega, rfl⟩ ?_
  rintro m σ ⟨j, hj, rfl, rfl⟩
  by_cases hlt : j < n
  case neg =>
    have e : j = n := by omega
    subst e
    (refine LWP.seq <| LWP.region (by kernel_rfl) <| klt rfl rfl (decide_eq_false (by omega)) <| RunK.nil <| LWP.seq <| LWP.condF rfl ?_; refine LWP.exit <| LWP.seq <| LWP.region (by kernel_rfl) <| kmv rfl <| kas rfl <| RunK.nil <| LWP.ret ?_)
    have hl : (newE j).length = j := by unfold newE; rw [List.length_replicate]
    refine Leads.le (σ' := ⟨[(4, Lp 27)], oXr 27 25 23 g (newE j) (fun i => ((i + 1 : Nat) : Int)) j false false [], joinM X (fun _ => none)⟩) ?_ ?_
    · show Le _ _ _ ⟨[(4, Lp 27)], [sxB 27 g (.slc 23 0 (newE j).length 2) (.slc 25 0 j 1), (25, some ⟨3, (idL (fun i => ((i + 1 : Nat) : Int)) j).map .val, false⟩), (23, some ⟨70, (stL (newE j)).map .val, false⟩)], joinM X (fun _ => none)⟩
      rw [joinM_nil, ← putF_all, hl, ← mkE_all]
      exact Le.of (by exact ⟨rfl, trivial⟩) (by exact ⟨rfl, rfl, rfl, trivial⟩) (by exact rfl) (by exact rfl) (by repeat' (first | refine all_cons_true ?_ ?_ | rfl | exact bytes_inUse | exact vals_inUse | exact mid_inUse rfl))
    refine ix_shut (OwnedM.nil C X) (FreeH.new j) ⟨fun _ => rfl, fun _ _ => rfl, fun _ => rfl, rfl, fun _ => rfl, fun _ _ => rfl, fun _ => rfl, rfl, rfl, rfl, rfl, rfl, rfl⟩ (Leads.done ?_)
    exact ⟨[(1000001, 27)], ⟨[_], ⟨rfl, trivial⟩, rfl⟩, (by repeat' (first | exact trivial | refine And.intro ⟨_, rfl, ?_⟩ ?_ | refine And.intro ⟨_, rfl⟩ ?_ | rfl | exact Box.ren_bytes _ _ _ _ | exact Box.ren_vals _ _ _ _ | exact Box.ren_mid rfl)), rfl, rfl⟩
  have hix : 0 + Int.toNat ((j : Nat) : Int) * 2 = j * 2 := by simp
  have hix2 : 0 + Int.toNat ((j : Nat) : Int) * 1 = j := by simp
  have hadd : IntKind.i64.wrap (((j : Nat) : Int) + 1) = ((j + 1 : Nat) : Int) := by rw [wrap_i64 (by omega)]; omega
  have hs1 := stL_put (v := .int .i64 1) (y := (1, 0)) (k := 0) (mkE_at hlt) (by decide) rfl
  rw [mkE_set hlt] at hs1
  have hr1 : Nat.blt (j * 2) ((stL (mkE n j)).map CV.val).length = true := by rw [List.length_map, stL_len, mkE_len hj, Nat.blt_eq]; omega
  have hs2 := idL_put (putF j) hlt ((j + 1 : Nat) : Int)
  rw [putF_next] at hs2
  have hr2 : Nat.blt j ((idL (putF j) n).map CV.val).length = true := by rw [List.length_map, idL_len, Nat.blt_eq]; exact hlt
  (refine LWP.seq <| LWP.region (by kernel_rfl) <| klt rfl rfl (decide_eq_true (by omega)) <| RunK.nil <| LWP.seq <| LWP.condT rfl ?_; refine LWP.skip ?_; refine LWP.seq <| LWP.block <| LWP.seq <| LWP.region (by kernel_rfl) <| kmv rfl <| kas rfl <| RunK.nil <| LWP.seq <| LWP.region (by kernel_rfl) <| kmv rfl <| K.nilCheck rfl .plain <| kfa rfl rfl ?_; refine kl1 rfl rfl rfl <| kmv rfl <| K.indexSlc rfl rfl (by omega) hix .plain ?_; refine kfa rfl rfl ?_; refine K.storeOne rfl rfl rfl rfl hr1 hs1 .plain <| RunK.nil <| LWP.region (by kernel_rfl) <| kmv rfl <| K.nilCheck rfl .plain <| kfa rfl rfl ?_; refine kl1 rfl rfl rfl <| kmv rfl <| kmv rfl <| kad rfl rfl hadd <| K.indexSlc rfl rfl (by omega) hix2 .plain ?_; refine K.storeOne rfl rfl rfl rfl hr2 hs2 .plain <| RunK.nil <| LWP.region (by kernel_rfl) <| kad rfl rfl hadd <| kmv rfl <| RunK.nil ?_)
  exact ⟨_, nwSt g n (j + 1) X, by omega, Le.of (by exact ⟨rfl, rfl, rfl, trivial⟩) (by exact ⟨rfl, rfl, rfl, trivial⟩) (by exact rfl) (by exact rfl) (by repeat' (first | refine all_cons_true ?_ ?_ | rfl | exact bytes_inUse | exact vals_inUse | exact mid_inUse rfl)), j + 1, by omega, rfl, rfl⟩
end Go.Proofs.Ytkdbkgfdggbhkaa
end
section
namespace Go.Proofs.Ytkdbkgfdggbhkaa
open Go Go.Lg
set_option maxRecDepth 100000
variable (X : Nat → Option Obj)
theorem iLive_nil : PSpec Try.prog X 12 [Lnil] (.sv (.one (.val (.slice none 0 0)))) := by
  refine PSpec.intro Try.func12 rfl (by kernel_rfl) rfl rfl ?_
  intro C
  (refine LWP.seq <| LWP.region (by kernel_rfl) <| kas rfl <| RunK.nil <| LWP.seq <| LWP.seq <| LWP.region (by kernel_rfl) <| kmv rfl <| K.nilNil rfl (by kernel_rfl) (.inl ⟨rfl, rfl⟩) .plain <| RunK.nil <| LWP.condT rfl ?_; refine LWP.seq <| LWP.region (by kernel_rfl) <| kas rfl <| RunK.nil <| LWP.ret ?_)
  exact ⟨[_], ⟨rfl, trivial⟩, rfl⟩
abbrev lvSt0 (g : Nat) (vi vf : Value) (n j : Nat) (Y : Nat → Option Obj) : St := ⟨[(0, Lp 1000000), (3, .sv (.one (.val (.slice none 0 0)))), (11, .sv (.one (.val vi))), (12, Ln .i64 (n : Nat)), (13, Ln .i64 (j : Nat))], [sxB 1000000 g (.val vi) (.val vf)], Y⟩
abbrev lvSt1 (g : Nat) (vi vf : Value) (n j : Nat) (L : List Nat) (Y : Nat → Option Obj) : St := ⟨[(0, Lp 1000000), (3, .sv (.one (.slc 500 0 L.length 1))), (11, .sv (.one (.val vi))), (12, Ln .i64 (n : Nat)), (13, Ln .i64 (j : Nat))], [lvB 500 L, sxB 1000000 g (.val vi) (.val vf)], Y⟩
set_option maxHeartbeats 6400000 in
theorem iLive_none (g : Nat) (l : List Ei) (hk : OkX g l) (h : lvMade (liveL l) = false) : MSpec Try.prog X 12 [Lp 1000000] [xB 1000000 g l] (.sv (.one (.val (.slice none 0 0)))) [xB 1000000 g l] := by
  have hnone : ∀ x ∈ l, livE x = false := fun x hx => by
    have h1 := live_len l 0
    rw [show liveFrom 0 l = [] from lvMade_nil h] at h1
    have h2 : cntE l = 0 := h1.symm
    unfold cntE at h2
    simpa using List.countP_eq_zero.1 h2 x hx
  have hids := hk.ids
  refine MSpec.intro Try.func12 rfl (by kernel_rfl) rfl rfl (by exact (by repeat' (first | refine all_cons_true ?_ ?_ | rfl | exact bytes_inUse | exact vals_inUse | exact mid_inUse rfl))) rfl rfl ?_
  intro C
  refine LWP.ends (half_open fun H vi vf v L hO hI => ?_)
  obtain ⟨b, cap, arr, fr, sp, rfl, hcap, hX, harr⟩ := hI.st (X := X)
  (refine LWP.seq <| LWP.region (by kernel_rfl) <| kas rfl <| RunK.nil <| LWP.seq <| LWP.seq <| LWP.region (by kernel_rfl) <| kmv rfl <| K.ptrNil rfl (by kernel_rfl) (.inl ⟨rfl, rfl⟩) .plain <| RunK.nil <| LWP.condF rfl ?_; refine LWP.skip ?_; refine LWP.seq <| LWP.region (by kernel_rfl) <| kas rfl <| RunK.nil <| LWP.seq <| LWP.seq <| LWP.region (by kernel_rfl) <| kmv rfl <| K.nilCheck rfl .plain <| kfa rfl rfl ?_; refine kl1 rfl rfl rfl <| K.lenX rfl SliceT.h rfl .plain ?_; refine kmv rfl <| RunK.nil <| LWP.block ?_)
  refine LWP.loop (fun m σ => ∃ j : Nat, j ≤ l.length ∧ m = l.length - j ∧ σ = lvSt0 g (.slice (some ⟨b, 0, none⟩) l.length cap) vf l.length j (joinM X H)) l.length
    ⟨_, Le.of (by exact ⟨rfl, rfl, rfl, rfl, rfl, trivial⟩) (by exact ⟨rfl, trivial⟩) (by exact rfl) (by exact rfl) (by exact rfl), 0, by omega, rfl, rfl⟩ ?_
  rintro m σ ⟨j, hj, rfl, rfl⟩
  by_cases hlt : j < l.length
  case neg =>
    (refine LWP.seq <| LWP.region (by kernel_rfl) <| klt rfl rfl (decide_eq_false (by omega)) <| RunK.nil <| LWP.seq <| LWP.condF rfl ?_; refine LWP.exit <| LWP.seq <| LWP.region (by kernel_rfl) <| kmv rfl <| kas rfl <| RunK.nil <| LWP.ret ?_)
    refine half_shut hO hI (Leads.done ?_)
    exact ⟨[], ⟨[_], ⟨rfl, trivial⟩, rfl⟩, (by repeat' (first | exact trivial | refine And.intro ⟨_, rfl, ?_⟩ ?_ | refine And.intro ⟨_, rfl⟩ ?_ | rfl | exact Box.ren_bytes _ _ _ _ | exact Box.ren_vals _ _ _ _ | exact Box.ren_mid rfl)), rfl, rfl⟩
  obtain ⟨x, hx⟩ : ∃ x, l[j]? = some x := ⟨_, List.getElem?_eq_getElem hlt⟩
  have hl := hnone x (List.mem_of_getElem? hx)
  obtain ⟨r0, r1, r2, r3⟩ := st_read harr hx
  replace r3 : ((arr.toList.drop (j * 2)).take 2).map CV.val = [.val (.int .i64 (genE x : Nat)), .val (.bool (livE x))] := r3
  rw [hl] at r3
  have hix : 0 + Int.toNat ((j : Nat) : Int) * 2 = j * 2 := by simp
  have hadd : IntKind.i64.wrap (((j : Nat) : Int) + 1) = ((j + 1 : Nat) : Int) := by rw [wrap_i64 (by omega)]; omega
  (refine LWP.seq <| LWP.region (by kernel_rfl) <| klt rfl rfl (decide_eq_true (by omega)) <| RunK.nil <| LWP.seq <| LWP.condT rfl ?_; refine LWP.skip ?_; refine LWP.seq <| LWP.block <| LWP.seq <| LWP.region (by kernel_rfl) <| kmv rfl <| K.indexX rfl rfl SliceT.h (by omega) hix .plain <| K.loadXagg rfl hX (by kernel_rfl) r2 r3 .plain <| K.alloc rfl .plain ?_; refine kas rfl <| K.storeAll rfl rfl rfl rfl rfl rfl .plain ?_; refine RunK.nil <| LWP.seq <| LWP.region (by kernel_rfl) <| kfa rfl rfl ?_; refine kl1 rfl rfl rfl <| RunK.nil <| LWP.condF rfl ?_; refine LWP.skip ?_; refine LWP.region (by kernel_rfl) <| kad rfl rfl hadd <| kmv rfl <| RunK.nil ?_)
  exact ⟨_, lvSt0 g (.slice (some ⟨b, 0, none⟩) l.length cap) vf l.length (j + 1) (joinM X H), by omega, Le.of (by exact ⟨rfl, rfl, rfl, rfl, rfl, trivial⟩) (by exact ⟨rfl, trivial⟩) (by exact rfl) (by exact rfl) (by exact rfl), j + 1, by omega, rfl, rfl⟩
set_option maxHeartbeats 12800000 in
theorem iLive (g : Nat) (l : List Ei) (hk : OkX g l) (h : lvMade (liveL l) = true) : MSpec Try.prog X 12 [Lp 1000000] [xB 1000000 g l] (.sv (.one (.slc 1000001 0 (liveL l).length 1))) [xB 1000000 g l, lvB 1000001 (liveL l)] := by
  have hids := hk.ids
  refine MSpec.intro Try.func12 rfl (by kernel_rfl) rfl rfl (by exact (by repeat' (first | refine all_cons_true ?_ ?_ | rfl | exact bytes_inUse | exact vals_inUse | exact mid_inUse rfl))) rfl rfl ?_
  intro C
  refine LWP.ends (half_open fun H vi vf v L hO hI => ?_)
  have hSt := hI.st (X := X)
  obtain ⟨b, cap, arr, fr, sp, rfl, hcap, hX, harr⟩ := hI.st (X := X)
  (refine LWP.seq <| LWP.region (by kernel_rfl) <| kas rfl <| RunK.nil <| LWP.seq <| LWP.seq <| LWP.region (by kernel_rfl) <| kmv rfl <| K.ptrNil rfl (by kernel_rfl) (.inl ⟨rfl, rfl⟩) .plain <| RunK.nil <| LWP.condF rfl ?_; refine LWP.skip ?_; refine LWP.seq <| LWP.region (by kernel_rfl) <| kas rfl <| RunK.nil <| LWP.seq <| LWP.seq <| LWP.region (by kernel_rfl) <| kmv rfl <| K.nilCheck rfl .plain <| kfa rfl rfl ?_; refine kl1 rfl rfl rfl <| K.lenX rfl SliceT.h rfl .plain ?_; refine kmv rfl <| RunK.nil <| LWP.block ?_)
  refine LWP.loop (fun m σ => ∃ (j : Nat) (M : List Nat), j ≤ l.length ∧ m = l.length - j ∧ liveFrom 0 (l.take j) = M ∧ ((M = [] ∧ σ = lvSt0 g (.slice (some ⟨b, 0, none⟩) l.length cap) vf l.length j (joinM X H)) ∨ (M ≠ [] ∧ σ = lvSt1 g (.slice (some ⟨b, 0, none⟩) l.length cap) vf l.length j M (joinM X H)))) l.length
    ⟨lvSt0 g (.slice (some ⟨b, 0, none⟩) l.length cap) vf l.length 0 (joinM X H), Le.of (by exact ⟨rfl, rfl, rfl, rfl, rfl, trivial⟩) (by exact ⟨rfl, trivial⟩) (by exact rfl) (by exact rfl) (by exact rfl), 0, [], by omega, rfl, rfl, .inl ⟨rfl, rfl⟩⟩ ?_
  rintro m σ ⟨j, M, hj, rfl, hM, hσ⟩
  have hMl : M.length ≤ 256 := by rw [← hM]; exact Nat.le_trans (live_le _ _) (by rw [List.length_take]; omega)
  by_cases hlt : j < l.length
  case neg =>
    have e : j = l.length := by omega
    subst e
    rw [List.take_length] at hM
    have hM2 : liveL l = M := hM
    rw [hM2] at h
    rcases hσ with ⟨rfl, rfl⟩ | ⟨hne, rfl⟩
    · cases h
    rw [hM2]
    (refine LWP.seq <| LWP.region (by kernel_rfl) <| klt rfl rfl (decide_eq_false (by omega)) <| RunK.nil <| LWP.seq <| LWP.condF rfl ?_; refine LWP.exit <| LWP.seq <| LWP.region (by kernel_rfl) <| kmv rfl <| kas rfl <| RunK.nil <| LWP.ret ?_)
    refine Leads.le (σ' := ⟨[(2, .sv (.one (.slc 500 0 M.length 1)))], [sxB 1000000 g (.val (.slice (some ⟨b, 0, none⟩) l.length cap)) (.val vf), lvB 500 M], joinM X H⟩) (Le.of (by exact ⟨rfl, trivial⟩) (by exact ⟨rfl, rfl, trivial⟩) (by exact rfl) (by exact rfl) (by repeat' (first | refine all_cons_true ?_ ?_ | rfl | exact bytes_inUse | exact vals_inUse | exact mid_inUse rfl))) ?_
    refine half_shut hO hI (Leads.done ?_)
    exact ⟨[(1000001, 500)], ⟨[_], ⟨rfl, trivial⟩, rfl⟩, (by repeat' (first | exact trivial | refine And.intro ⟨_, rfl, ?_⟩ ?_ | refine And.intro ⟨_, rfl⟩ ?_ | rfl | exact Box.ren_bytes _ _ _ _ | exact Box.ren_vals _ _ _ _ | exact Box.ren_mid rfl)), rfl, rfl⟩
  obtain ⟨x, hx⟩ : ∃ x, l[j]? = some x := ⟨_, List.getElem?_eq_getElem hlt⟩
  obtain ⟨r0, r1, r2, r3⟩ := st_read harr hx
  replace r3 : ((arr.toList.drop (j * 2)).take 2).map CV.val = [.val (.int .i64 (genE x : Nat)), .val (.bool (livE x))] := r3
  have hix : 0 + Int.toNat ((j : Nat) : Int) * 2 = j * 2 := by simp
  have hadd : IntKind.i64.wrap (((j : Nat) : Int) + 1) = ((j + 1 : Nat) : Int) := by rw [wrap_i64 (by omega)]; omega
  have hsn := live_snoc (k := 0) hx
  rw [hM, Nat.zero_add] at hsn
  cases hl : livE x with
  | false =>
    rw [hl] at r3 hsn
    rw [if_neg (by decide), List.append_nil] at hsn
    rcases hσ with ⟨rfl, rfl⟩ | ⟨hne, rfl⟩
    · (refine LWP.seq <| LWP.region (by kernel_rfl) <| klt rfl rfl (decide_eq_true (by omega)) <| RunK.nil <| LWP.seq <| LWP.condT rfl ?_; refine LWP.skip ?_; refine LWP.seq <| LWP.block <| LWP.seq <| LWP.region (by kernel_rfl) <| kmv rfl <| K.indexX rfl rfl SliceT.h (by omega) hix .plain <| K.loadXagg rfl hX (by kernel_rfl) r2 r3 .plain <| K.alloc rfl .plain ?_; refine kas rfl <| K.storeAll rfl rfl rfl rfl rfl rfl .plain ?_; refine RunK.nil <| LWP.seq <| LWP.region (by kernel_rfl) <| kfa rfl rfl ?_; refine kl1 rfl rfl rfl <| RunK.nil <| LWP.condF rfl ?_; refine LWP.skip ?_; refine LWP.region (by kernel_rfl) <| kad rfl rfl hadd <| kmv rfl <| RunK.nil ?_)
      exact ⟨_, lvSt0 g (.slice (some ⟨b, 0, none⟩) l.length cap) vf l.length (j + 1) (joinM X H), by omega, Le.of (by exact ⟨rfl, rfl, rfl, rfl, rfl, trivial⟩) (by exact ⟨rfl, trivial⟩) (by exact rfl) (by exact rfl) (by exact rfl), j + 1, [], by omega, rfl, hsn, .inl ⟨rfl, rfl⟩⟩
    · (refine LWP.seq <| LWP.region (by kernel_rfl) <| klt rfl rfl (decide_eq_true (by omega)) <| RunK.nil <| LWP.seq <| LWP.condT rfl ?_; refine LWP.skip ?_; refine LWP.seq <| LWP.block <| LWP.seq <| LWP.region (by kernel_rfl) <| kmv rfl <| K.indexX rfl rfl SliceT.h (by omega) hix .plain <| K.loadXagg rfl hX (by kernel_rfl) r2 r3 .plain <| K.alloc rfl .plain ?_; refine kas rfl <| K.storeAll rfl rfl rfl rfl rfl rfl .plain ?_; refine RunK.nil <| LWP.seq <| LWP.region (by kernel_rfl) <| kfa rfl rfl ?_; refine kl1 rfl rfl rfl <| RunK.nil <| LWP.condF rfl ?_; refine LWP.skip ?_; refine LWP.region (by kernel_rfl) <| kad rfl rfl hadd <| kmv rfl <| RunK.nil ?_)
      exact ⟨_, lvSt1 g (.slice (some ⟨b, 0, none⟩) l.length cap) vf l.length (j + 1) M (joinM X H), by omega, Le.of (by exact ⟨rfl, rfl, rfl, rfl, rfl, trivial⟩) (by exact ⟨rfl, rfl, trivial⟩) (by exact rfl) (by exact rfl) (by repeat' (first | refine all_cons_true ?_ ?_ | rfl | exact bytes_inUse | exact vals_inUse | exact mid_inUse rfl)), j + 1, M, by omega, rfl, hsn, .inr ⟨hne, rfl⟩⟩
  | true =>
    rw [hl] at r3 hsn
    rw [if_pos rfl] at hsn
    have hst : x.2 = 1 := by unfold livE at hl; exact beq_iff_eq.1 hl
    have hgx : genE x = x.1 := by unfold genE; rw [hst]; rfl
    have hgo := (hk.ok _ (List.mem_of_getElem? hx)).1
    have hgb := hk.gens
    have hH := iHandle (joinM X H) g l _ vf j x hSt hx (by omega) (by rw [hgx]; omega)
    rw [hgx] at hH r3
    generalize hdl (j + 1) x.1 = e at *
    rcases hσ with ⟨rfl, rfl⟩ | ⟨hne, rfl⟩
    · (refine LWP.seq <| LWP.region (by kernel_rfl) <| klt rfl rfl (decide_eq_true (by omega)) <| RunK.nil <| LWP.seq <| LWP.condT rfl ?_; refine LWP.skip ?_; refine LWP.seq <| LWP.block <| LWP.seq <| LWP.region (by kernel_rfl) <| kmv rfl <| K.indexX rfl rfl SliceT.h (by omega) hix .plain <| K.loadXagg rfl hX (by kernel_rfl) r2 r3 .plain <| K.alloc rfl .plain ?_; refine kas rfl <| K.storeAll rfl rfl rfl rfl rfl rfl .plain ?_; refine RunK.nil <| LWP.seq <| LWP.region (by kernel_rfl) <| kfa rfl rfl ?_; refine kl1 rfl rfl rfl <| RunK.nil <| LWP.condT rfl ?_; refine LWP.region (by kernel_rfl) <| kmv rfl <| kmv rfl <| kmv rfl <| kad rfl rfl hadd <| K.callR [(1000000, 1000000)] (hH) rfl rfl (by exact (And.intro ⟨_, rfl, rfl⟩ trivial)) (by exact (all_cons_true (all_cons_true rfl (all_cons_true rfl (all_cons_true rfl rfl))) rfl)) rfl rfl rfl rfl .plain <| K.buildSlc (zs := [.int .u64 0]) (sz := 1) (e := 27) (cs' := [.val (.int .u64 (e : Nat))]) (by kernel_rfl) rfl rfl rfl rfl rfl rfl .plain <| K.appendNil (e := 27) (by_ := 8) (e2 := 27) (l2 := [.val (.int .u64 (e : Nat))]) rfl rfl rfl (Nat.le_refl _) rfl rfl (by omega) (by kernel_rfl) (by kernel_rfl) (by omega) (by omega) rfl .plain ?_; refine kas rfl <| RunK.nil <| LWP.region (by kernel_rfl) <| kad rfl rfl hadd <| kmv rfl <| RunK.nil ?_)
      exact ⟨_, lvSt1 g (.slice (some ⟨b, 0, none⟩) l.length cap) vf l.length (j + 1) [e] (joinM X H), by omega, Le.ofR [(500, 26)] (by exact ⟨rfl, rfl, rfl, rfl, rfl, trivial⟩) (by repeat' (first | exact trivial | refine And.intro ⟨_, rfl, ?_⟩ ?_ | refine And.intro ⟨_, rfl⟩ ?_ | rfl | exact Box.ren_bytes _ _ _ _ | exact Box.ren_vals _ _ _ _ | exact Box.ren_mid rfl)) (by exact rfl) (by exact rfl) (by repeat' (first | refine all_cons_true ?_ ?_ | rfl | exact bytes_inUse | exact vals_inUse | exact mid_inUse rfl)) (by exact rfl) (by exact rfl), j + 1, [e], by omega, rfl, hsn, .inr ⟨by simp, rfl⟩⟩
    · have hcl := u64V_len M
      have hnc := u64V_snoc M e
      have hnl : M.length + 1 = (M ++ [e]).length := by rw [List.length_append]; rfl
      (refine LWP.seq <| LWP.region (by kernel_rfl) <| klt rfl rfl (decide_eq_true (by omega)) <| RunK.nil <| LWP.seq <| LWP.condT rfl ?_; refine LWP.skip ?_; refine LWP.seq <| LWP.block <| LWP.seq <| LWP.region (by kernel_rfl) <| kmv rfl <| K.indexX rfl rfl SliceT.h (by omega) hix .plain <| K.loadXagg rfl hX (by kernel_rfl) r2 r3 .plain <| K.alloc rfl .plain ?_; refine kas rfl <| K.storeAll rfl rfl rfl rfl rfl rfl .plain ?_; refine RunK.nil <| LWP.seq <| LWP.region (by kernel_rfl) <| kfa rfl rfl ?_; refine kl1 rfl rfl rfl <| RunK.nil <| LWP.condT rfl ?_; refine LWP.region (by kernel_rfl) <| kmv rfl <| kmv rfl <| kmv rfl <| kad rfl rfl hadd <| K.callR [(1000000, 1000000)] (hH) rfl rfl (by exact (And.intro ⟨_, rfl, rfl⟩ trivial)) (by exact (all_cons_true (all_cons_true rfl (all_cons_true rfl (all_cons_true rfl rfl))) rfl)) rfl rfl rfl rfl .plain <| K.buildSlc (zs := [.int .u64 0]) (sz := 1) (e := 27) (cs' := [.val (.int .u64 (e : Nat))]) (by kernel_rfl) rfl rfl rfl rfl rfl rfl .plain <| K.appendSlc (by_ := 8) (e2 := 27) (l2 := [.val (.int .u64 (e : Nat))]) (nl := (M ++ [e]).length) (nc := (u64V (M ++ [e])).map .val) rfl rfl hcl rfl rfl (Nat.le_refl _) rfl rfl (by kernel_rfl) (by kernel_rfl) (by omega) (by omega) rfl hnl hnc .plain <| kas rfl <| RunK.nil <| LWP.region (by kernel_rfl) <| kad rfl rfl hadd <| kmv rfl <| RunK.nil ?_)
      exact ⟨_, lvSt1 g (.slice (some ⟨b, 0, none⟩) l.length cap) vf l.length (j + 1) (M ++ [e]) (joinM X H), by omega, Le.ofR [(500, 26)] (by exact ⟨rfl, rfl, rfl, rfl, rfl, trivial⟩) (by repeat' (first | exact trivial | refine And.intro ⟨_, rfl, ?_⟩ ?_ | refine And.intro ⟨_, rfl⟩ ?_ | rfl | exact Box.ren_bytes _ _ _ _ | exact Box.ren_vals _ _ _ _ | exact Box.ren_mid rfl)) (by exact rfl) (by exact rfl) (by repeat' (first | refine all_cons_true ?_ ?_ | rfl | exact bytes_inUse | exact vals_inUse | exact mid_inUse rfl)) (by exact rfl) (by exact rfl), j + 1, M ++ [e], by omega, rfl, hsn, .inr ⟨by simp, rfl⟩⟩
theorem iCount_nil : PSpec Try.prog X 13 [Lnil] (Ln .i64 0) := by
  have hL := iLive_nil X
  refine PSpec.intro Try.func13 rfl (by kernel_rfl) rfl rfl ?_
  intro C
  (refine LWP.seq <| LWP.region (by kernel_rfl) <| kas rfl <| RunK.nil <| LWP.seq <| LWP.region (by kernel_rfl) <| kmv rfl <| kca rfl rfl (hL) <| K.lenX rfl SliceT.h rfl .plain ?_; refine kas rfl <| RunK.nil <| LWP.ret ?_)
  exact ⟨[_], ⟨rfl, trivial⟩, rfl⟩
theorem iCount (g : Nat) (l : List Ei) (hk : OkX g l) : MSpec Try.prog X 13 [Lp 1000000] [xB 1000000 g l] (Ln .i64 (cntE l : Nat)) [xB 1000000 g l] := by
  rw [← live_len l 0]
  show MSpec _ _ _ _ _ (Ln .i64 ((liveL l).length : Nat)) _
  refine MSpec.intro Try.func13 rfl (by kernel_rfl) rfl rfl (by exact (by repeat' (first | refine all_cons_true ?_ ?_ | rfl | exact bytes_inUse | exact vals_inUse | exact mid_inUse rfl))) rfl rfl ?_
  intro C
  cases hm : lvMade (liveL l) with
  | false =>
    have hL := iLive_none X g l hk hm
    rw [lvMade_nil hm]
    (refine LWP.seq <| LWP.region (by kernel_rfl) <| kas rfl <| RunK.nil <| LWP.seq <| LWP.region (by kernel_rfl) <| kmv rfl <| K.callR [(1000000, 1000000)] (hL) rfl rfl (by exact (And.intro ⟨_, rfl, rfl⟩ trivial)) (by exact (all_cons_true rfl rfl)) rfl rfl rfl rfl .plain <| K.lenX rfl SliceT.h rfl .plain ?_; refine kas rfl <| RunK.nil <| LWP.ret ?_)
    exact ⟨[], ⟨[_], ⟨rfl, trivial⟩, rfl⟩, (by repeat' (first | exact trivial | refine And.intro ⟨_, rfl, ?_⟩ ?_ | refine And.intro ⟨_, rfl⟩ ?_ | rfl | exact Box.ren_bytes _ _ _ _ | exact Box.ren_vals _ _ _ _ | exact Box.ren_mid rfl)), rfl, rfl⟩
  | true =>
    have hL := iLive X g l hk hm
    (refine LWP.seq <| LWP.region (by kernel_rfl) <| kas rfl <| RunK.nil <| LWP.seq <| LWP.region (by kernel_rfl) <| kmv rfl <| K.callMp [(1000001, 501)] (.sv (.one (.slc 501 0 (liveL l).length 1))) [xB 1000000 g l, lvB 501 (liveL l)] (hL) rfl rfl (by exact (And.intro ⟨_, rfl, rfl⟩ trivial)) (by exact (all_cons_true rfl rfl)) rfl rfl rfl rfl (by exact (.box rfl rfl (.box rfl (Box.ren_vals _ _ _ _) .nil))) .plain <| K.lenSlc rfl SliceT.h rfl .plain ?_; refine kas rfl <| RunK.nil <| LWP.ret ?_)
    exact ⟨[], ⟨[_], ⟨rfl, trivial⟩, rfl⟩, (by repeat' (first | exact trivial | refine And.intro ⟨_, rfl, ?_⟩ ?_ | refine And.intro ⟨_, rfl⟩ ?_ | rfl | exact Box.ren_bytes _ _ _ _ | exact Box.ren_vals _ _ _ _ | exact Box.ren_mid rfl)), rfl, rfl⟩
end Go.Proofs.Ytkdbkgfdggbhkaa
end
section
namespace Go.Lg
open Go Go.RowKit
section
variable {P : Program} {n : Nat} {ops os : List Oper} {acc : List Eff} {K : List Eff → St → Prop} {s : List (Nat × LV)} {bx : List (Nat × Option Box)} {X : Nat → Option Obj} {σ : St}
theorem LOK.ptrTwo {d k off : Nat} {op : BinOp} {t t' : TypeId} {x y : Operand} {ty : TypeId} {pos : String} {after_ : Array Edge} {g : Option (Nat × Bool)} {r : Bool} (hx : σ.ev x = some (.sv (.one (.ptr k off)))) (hy : σ.ev y = some (.sv (.one (.val (.pointer none))))) (ht : isPtr P t = true)
    (hop : (op = .eql ∧ r = false) ∨ (op = .neq ∧ r = true)) :
    LOK P n ops ⟨some d, .binOp op t x y t', ty, pos, after_, g⟩ σ ⟨[(d, .sv (.one (.val (.bool r))))], [], []⟩ :=
  LOK.value fun σ' ha C ι a w hr => by
    obtain ⟨b, hv⟩ := CV.rel_ptr (hr.ev ((ha.ev (x := x) (by simp [Op.operands])).trans hx))
    have hc : a.eval y = .pointer none := hr.ev ((ha.ev (x := y) (by simp [Op.operands])).trans hy)
    rcases hop with ⟨rfl, rfl⟩ | ⟨rfl, rfl⟩
    · exact ⟨_, by simp only [execOp, hv, hc, eqGuard, Sem.run_bind]; simp [run_eql_pointer_nil w t _ (isPtr_spec ht)], rfl⟩
    · exact ⟨_, by simp only [execOp, hv, hc, eqGuard, Sem.run_bind]; simp [run_neq_pointer_nil w t _ (isPtr_spec ht)], rfl⟩
theorem LOK.nilTwo {d : Nat} {op : BinOp} {t t' : TypeId} {x y : Operand} {ty : TypeId} {pos : String} {after_ : Array Edge} {g : Option (Nat × Bool)} {r : Bool} (hx : σ.ev x = some (.sv (.one (.val (.pointer none))))) (hy : σ.ev y = some (.sv (.one (.val (.pointer none))))) (ht : isPtr P t = true)
    (hop : (op = .eql ∧ r = true) ∨ (op = .neq ∧ r = false)) :
    LOK P n ops ⟨some d, .binOp op t x y t', ty, pos, after_, g⟩ σ ⟨[(d, .sv (.one (.val (.bool r))))], [], []⟩ :=
  LOK.value fun σ' ha C ι a w hr => by
    have hv : a.eval x = .pointer none := hr.ev ((ha.ev (x := x) (by simp [Op.operands])).trans hx)
    have hc : a.eval y = .pointer none := hr.ev ((ha.ev (x := y) (by simp [Op.operands])).trans hy)
    rcases hop with ⟨rfl, rfl⟩ | ⟨rfl, rfl⟩
    · exact ⟨_, by simp only [execOp, hv, hc, eqGuard, Sem.run_bind]; simp [run_eql_pointer_nil w t _ (isPtr_spec ht)], rfl⟩
    · exact ⟨_, by simp only [execOp, hv, hc, eqGuard, Sem.run_bind]; simp [run_neq_pointer_nil w t _ (isPtr_spec ht)], rfl⟩
theorem K.ptrTwo {d k off : Nat} {op : BinOp} {t t' : TypeId} {x y : Operand} {ty : TypeId} {pos : String} {after_ : Array Edge} {g : Option (Nat × Bool)} {r : Bool} (hx : (⟨s, bx, X⟩ : St).ev x = some (.sv (.one (.ptr k off)))) (hy : (⟨s, bx, X⟩ : St).ev y = some (.sv (.one (.val (.pointer none))))) (ht : isPtr P t = true)
    (hop : (op = .eql ∧ r = false) ∨ (op = .neq ∧ r = true)) (hw : Want ops s g) (kont : RunK P n ops os ⟨(d, .sv (.one (.val (.bool r)))) :: s, bx, X⟩ (⟨[(d, .sv (.one (.val (.bool r))))], [], []⟩ :: acc) K) :
    RunK P n ops (⟨some d, .binOp op t x y t', ty, pos, after_, g⟩ :: os) ⟨s, bx, X⟩ acc K := RunK.g1 (LOK.ptrTwo hx hy ht hop) hw kont
theorem K.nilTwo {d : Nat} {op : BinOp} {t t' : TypeId} {x y : Operand} {ty : TypeId} {pos : String} {after_ : Array Edge} {g : Option (Nat × Bool)} {r : Bool} (hx : (⟨s, bx, X⟩ : St).ev x = some (.sv (.one (.val (.pointer none))))) (hy : (⟨s, bx, X⟩ : St).ev y = some (.sv (.one (.val (.pointer none))))) (ht : isPtr P t = true)
    (hop : (op = .eql ∧ r = true) ∨ (op = .neq ∧ r = false)) (hw : Want ops s g) (kont : RunK P n ops os ⟨(d, .sv (.one (.val (.bool r)))) :: s, bx, X⟩ (⟨[(d, .sv (.one (.val (.bool r))))], [], []⟩ :: acc) K) :
    RunK P n ops (⟨some d, .binOp op t x y t', ty, pos, after_, g⟩ :: os) ⟨s, bx, X⟩ acc K := RunK.g1 (LOK.nilTwo hx hy ht hop) hw kont
end
end Go.Lg
end
section
namespace Go.Proofs.Ytkdbkgfdggbhkaa
open Go Go.Lg
set_option maxRecDepth 100000
variable (X : Nat → Option Obj)
def cellE (x : Ei) : Nat × Bool := (genE x, livE x)
def sameI (g : Nat) (l : List Ei) (h : Nat) (m : List Ei) : Bool := decide (g = h) && decide (l.map cellE = m.map cellE)
theorem same_self (g : Nat) (l : List Ei) : sameI g l g l = true := by unfold sameI; simp
theorem same_spawn {g : Nat} {l : List Ei} {i gen : Nat} (hx : l[i]? = some (gen, 0)) : sameI g l g (l.set i (gen, 1)) = false := by
  unfold sameI
  rw [decide_eq_true rfl, Bool.true_and, decide_eq_false]
  intro h
  have hi := (List.getElem?_eq_some_iff.1 hx).1
  have := congrArg (fun L => L[i]?) h
  simp only [List.getElem?_map, hx, List.getElem?_set_self hi, Option.map_some, Option.some.injEq, cellE, Prod.mk.injEq] at this
  cases this.2
theorem take_cells {l : List Ei} {i : Nat} {x : Ei} (h : l[i]? = some x) : (l.take (i + 1)).map cellE = (l.take i).map cellE ++ [cellE x] := by
  obtain ⟨hi, e⟩ := List.getElem?_eq_some_iff.1 h
  rw [List.take_succ_eq_append_getElem hi, List.map_append, e]; rfl
set_option maxHeartbeats 3200000 in
theorem kEqSt (vi vj : Value) (a b : List Ei) (ha : StIn X vi a) (hb : StIn X vj b) (hbig : a.length ≤ 256) :
    PSpec Try.prog X 36 [.sv (.one (.val vi)), .sv (.one (.val vj))] (Lb (decide (a.map cellE = b.map cellE))) := by
  obtain ⟨p, cap, arr, fr, sp, rfl, hcap, hX, harr⟩ := ha
  obtain ⟨p', cap', arr', fr', sp', rfl, hcap', hX', harr'⟩ := hb
  refine PSpec.intro Try.func36 rfl (by kernel_rfl) rfl rfl ?_
  intro C
  by_cases hl : a.length = b.length
  · (refine LWP.seq <| LWP.region (by kernel_rfl) <| kas rfl <| RunK.nil <| LWP.seq <| LWP.seq <| LWP.region (by kernel_rfl) <| kmv rfl <| K.lenX rfl SliceT.h rfl .plain ?_; refine kmv rfl <| K.lenX rfl SliceT.h rfl .plain ?_; refine kne rfl rfl (r := false) (by rw [hl]; simp) <| RunK.nil <| LWP.condF rfl ?_; refine LWP.skip ?_; refine LWP.seq <| LWP.seq <| LWP.region (by kernel_rfl) <| kmv rfl <| K.lenX rfl SliceT.h rfl .plain ?_; refine kmv rfl <| RunK.nil <| LWP.block ?_)
    refine LWP.loop (fun m σ => ∃ i : Nat, i ≤ a.length ∧ m = a.length - i ∧ (a.take i).map cellE = (b.take i).map cellE ∧ σ = ⟨[(0, Lxs (some ⟨p, 0, none⟩) a.length cap), (1, Lxs (some ⟨p', 0, none⟩) b.length cap'), (12, Ln .i64 (a.length : Nat)), (13, Ln .i64 (i : Nat))], [], X⟩) a.length
      ⟨_, Le.of (by exact ⟨rfl, rfl, rfl, rfl, trivial⟩) (by exact trivial) (by exact rfl) (by exact rfl) (by exact rfl), 0, by omega, rfl, rfl, rfl⟩ ?_
    rintro m σ ⟨i, hi, rfl, hpre, rfl⟩
    by_cases hlt : i < a.length
    · obtain ⟨x, hx⟩ : ∃ v, a[i]? = some v := ⟨_, List.getElem?_eq_getElem hlt⟩
      obtain ⟨y, hy⟩ : ∃ v, b[i]? = some v := ⟨_, List.getElem?_eq_getElem (by omega)⟩
      obtain ⟨_, _, r2, r3⟩ := st_read harr hx
      obtain ⟨_, _, q2, q3⟩ := st_read harr' hy
      have hix : 0 + Int.toNat ((i : Nat) : Int) * 2 = i * 2 := by simp
      have hadd : IntKind.i64.wrap (((i : Nat) : Int) + 1) = ((i + 1 : Nat) : Int) := by rw [wrap_i64 (by omega)]; omega
      have hq : (((genE x : Nat) : Int) == ((genE y : Nat) : Int) && livE x == livE y) = decide (cellE x = cellE y) := by
        unfold cellE
        rw [Bool.eq_iff_iff]
        simp
        omega
      replace r3 : ((arr.toList.drop (i * 2)).take 2).map CV.val = [.val (.int .i64 (genE x : Nat)), .val (.bool (livE x))] := r3
      replace q3 : ((arr'.toList.drop (i * 2)).take 2).map CV.val = [.val (.int .i64 (genE y : Nat)), .val (.bool (livE y))] := q3
      by_cases hc : cellE x = cellE y
      · rw [decide_eq_true hc] at hq
        have qe := eqSt true hq
        generalize genE x = gx at *
        generalize genE y = gy at *
        generalize livE x = lx at *
        generalize livE y = ly at *
        (refine LWP.seq <| LWP.region (by kernel_rfl) <| klt rfl rfl (decide_eq_true (by omega)) <| RunK.nil <| LWP.seq <| LWP.condT rfl ?_; refine LWP.skip ?_; refine LWP.seq <| LWP.block <| LWP.seq <| LWP.region (by kernel_rfl) <| kmv rfl <| kas rfl <| RunK.nil <| LWP.seq <| LWP.draws mixed (by kernel_rfl) <| kmv rfl <| kmv rfl <| K.indexX rfl rfl SliceT.h (by omega) hix .plain <| K.loadXagg rfl hX (by kernel_rfl) r2 r3 .plain <| kmv rfl ?_; refine kmv rfl <| K.indexX rfl rfl SliceT.h (by omega) hix .plain <| K.loadXagg rfl hX' (by kernel_rfl) q2 q3 .plain <| K.aggEq (us := [.int .i64 (gx : Nat), .bool lx]) (vs := [.int .i64 (gy : Nat), .bool ly]) rfl rfl rfl rfl (by kernel_rfl) qe (.inr ⟨rfl, rfl⟩) .plain <| RunK.nil <| And.intro (by kernel_rfl) ?_; refine LWP.condF rfl ?_; refine LWP.skip ?_; refine LWP.region (by kernel_rfl) <| kad rfl rfl hadd <| kmv rfl <| RunK.nil ?_)
        exact ⟨_, _, by omega, Le.of (by exact ⟨rfl, rfl, rfl, rfl, trivial⟩) (by exact trivial) (by exact rfl) (by exact rfl) (by exact rfl), i + 1, by omega, rfl, by rw [take_cells hx, take_cells hy, hpre, hc], rfl⟩
      · rw [decide_eq_false (show ¬a.map cellE = b.map cellE from fun e => hc (by
          have e2 := congrArg (fun L => L[i]?) e
          simp only [List.getElem?_map, hx, hy, Option.map_some, Option.some.injEq] at e2
          exact e2))]
        rw [decide_eq_false hc] at hq
        have qe := eqSt false hq
        generalize genE x = gx at *
        generalize genE y = gy at *
        generalize livE x = lx at *
        generalize livE y = ly at *
        (refine LWP.seq <| LWP.region (by kernel_rfl) <| klt rfl rfl (decide_eq_true (by omega)) <| RunK.nil <| LWP.seq <| LWP.condT rfl ?_; refine LWP.skip ?_; refine LWP.seq <| LWP.block <| LWP.seq <| LWP.region (by kernel_rfl) <| kmv rfl <| kas rfl <| RunK.nil <| LWP.seq <| LWP.draws mixed (by kernel_rfl) <| kmv rfl <| kmv rfl <| K.indexX rfl rfl SliceT.h (by omega) hix .plain <| K.loadXagg rfl hX (by kernel_rfl) r2 r3 .plain <| kmv rfl ?_; refine kmv rfl <| K.indexX rfl rfl SliceT.h (by omega) hix .plain <| K.loadXagg rfl hX' (by kernel_rfl) q2 q3 .plain <| K.aggEq (us := [.int .i64 (gx : Nat), .bool lx]) (vs := [.int .i64 (gy : Nat), .bool ly]) rfl rfl rfl rfl (by kernel_rfl) qe (.inr ⟨rfl, rfl⟩) .plain <| RunK.nil <| And.intro (by kernel_rfl) ?_; refine LWP.condT rfl ?_; refine LWP.seq <| LWP.region (by kernel_rfl) <| kas rfl <| RunK.nil <| LWP.ret ?_)
        exact ⟨[_], ⟨rfl, trivial⟩, rfl⟩
    · have e : i = a.length := by omega
      subst e
      rw [List.take_length, hl, List.take_length] at hpre
      rw [decide_eq_true hpre]
      (refine LWP.seq <| LWP.region (by kernel_rfl) <| klt rfl rfl (decide_eq_false (by omega)) <| RunK.nil <| LWP.seq <| LWP.condF rfl ?_; refine LWP.exit <| LWP.seq <| LWP.region (by kernel_rfl) <| kas rfl <| RunK.nil <| LWP.ret ?_)
      exact ⟨[_], ⟨rfl, trivial⟩, rfl⟩
  · rw [decide_eq_false (show ¬a.map cellE = b.map cellE from fun e => hl (by have := congrArg List.length e; rwa [List.length_map, List.length_map] at this))]
    (refine LWP.seq <| LWP.region (by kernel_rfl) <| kas rfl <| RunK.nil <| LWP.seq <| LWP.seq <| LWP.region (by kernel_rfl) <| kmv rfl <| K.lenX rfl SliceT.h rfl .plain ?_; refine kmv rfl <| K.lenX rfl SliceT.h rfl .plain ?_; refine kne rfl rfl (r := true) (by rw [bne_iff_ne]; omega) <| RunK.nil <| LWP.condT rfl ?_; refine LWP.seq <| LWP.region (by kernel_rfl) <| kas rfl <| RunK.nil <| LWP.ret ?_)
    exact ⟨[_], ⟨rfl, trivial⟩, rfl⟩
theorem kClSt (v : Value) (l : List Ei) (hI : StIn X v l) (hb : l.length ≤ 256) :
    MSpec Try.prog X 34 [.sv (.one (.val v))] [] (.sv (.one (.slc 1000001 0 l.length 2))) [stB 1000001 l] := by
  obtain ⟨p, cap, arr, fr, sp, rfl, hcap, hX, harr⟩ := hI
  have hlen := stL_len l
  have hone : ∀ u ∈ stL l, u.oneCell' = true := fun u hu => by
    unfold stL at hu
    obtain ⟨x, hx, hu⟩ := List.mem_flatten.1 hu
    obtain ⟨y, _, rfl⟩ := List.mem_map.1 hx
    rcases List.mem_cons.1 hu with rfl | hu
    · rfl
    · rw [List.mem_singleton.1 hu]; rfl
  have hR : ReadsX X (some ⟨p, 0, none⟩) (stL l) := ⟨fun i u hu => ⟨p, 0, arr, _, fr, rfl, hX, by rw [← Array.getElem?_toList, harr, Nat.zero_add, List.getElem?_append_left (List.getElem?_eq_some_iff.1 hu).1]; exact hu⟩⟩
  refine MSpec.intro Try.func34 rfl (by kernel_rfl) rfl rfl (by exact (by repeat' (first | refine all_cons_true ?_ ?_ | rfl | exact bytes_inUse | exact vals_inUse | exact mid_inUse rfl))) rfl rfl ?_
  intro C
  (refine LWP.seq <| LWP.region (by kernel_rfl) <| kas rfl <| RunK.nil <| LWP.seq <| LWP.seq <| LWP.region (by kernel_rfl) <| kmv rfl <| K.slcNil (r := false) rfl SliceT.h (.inl ⟨rfl, rfl⟩) .plain ?_; refine RunK.nil <| LWP.condF rfl ?_; refine LWP.skip ?_; refine LWP.seq <| LWP.region (by kernel_rfl) <| K.buildSlc (zs := []) (sz := 2) (e := 70) (by kernel_rfl) rfl rfl rfl rfl rfl rfl .plain <| kmv rfl <| K.appendX (by_ := 16) (e2 := 70) (news := stL l) (nl := l.length) (nc := (stL l).map .val) rfl rfl rfl rfl hR hlen hone (by kernel_rfl) (by kernel_rfl) (by omega) (by omega) rfl (by omega) rfl .plain ?_; refine kas rfl <| RunK.nil <| LWP.ret ?_)
  exact ⟨[(1000001, 7)], ⟨[_], ⟨rfl, trivial⟩, rfl⟩, (by repeat' (first | exact trivial | refine And.intro ⟨_, rfl, ?_⟩ ?_ | refine And.intro ⟨_, rfl⟩ ?_ | rfl | exact Box.ren_bytes _ _ _ _ | exact Box.ren_vals _ _ _ _ | exact Box.ren_mid rfl)), rfl, rfl⟩
theorem kClFr (v : Value) (w : Nat → Int) (L : Nat) (hI : FrIn X v w L) (hb : L ≤ 256) :
    MSpec Try.prog X 35 [.sv (.one (.val v))] [] (.sv (.one (.slc 1000001 0 L 1))) [hpB 1000001 w L] := by
  obtain ⟨p, cap, arr, fr, sp, rfl, hcap, hX, harr⟩ := hI
  have hlen := idL_len w L
  have hone : ∀ u ∈ idL w L, u.oneCell' = true := fun u hu => by
    unfold idL at hu
    obtain ⟨x, _, rfl⟩ := List.mem_map.1 hu
    rfl
  have hR : ReadsX X (some ⟨p, 0, none⟩) (idL w L) := ⟨fun i u hu => ⟨p, 0, arr, _, fr, rfl, hX, by rw [← Array.getElem?_toList, harr, Nat.zero_add, List.getElem?_append_left (List.getElem?_eq_some_iff.1 hu).1]; exact hu⟩⟩
  refine MSpec.intro Try.func35 rfl (by kernel_rfl) rfl rfl (by exact (by repeat' (first | refine all_cons_true ?_ ?_ | rfl | exact bytes_inUse | exact vals_inUse | exact mid_inUse rfl))) rfl rfl ?_
  intro C
  (refine LWP.seq <| LWP.region (by kernel_rfl) <| kas rfl <| RunK.nil <| LWP.seq <| LWP.seq <| LWP.region (by kernel_rfl) <| kmv rfl <| K.slcNil (r := false) rfl SliceT.h (.inl ⟨rfl, rfl⟩) .plain ?_; refine RunK.nil <| LWP.condF rfl ?_; refine LWP.skip ?_; refine LWP.seq <| LWP.region (by kernel_rfl) <| K.buildSlc (zs := []) (sz := 1) (e := 3) (by kernel_rfl) rfl rfl rfl rfl rfl rfl .plain <| kmv rfl <| K.appendX (by_ := 8) (e2 := 3) (news := idL w L) (nl := L) (nc := (idL w L).map .val) rfl rfl rfl rfl hR (by omega) hone (by kernel_rfl) (by kernel_rfl) (by omega) (by omega) rfl (by omega) rfl .plain ?_; refine kas rfl <| RunK.nil <| LWP.ret ?_)
  exact ⟨[(1000001, 7)], ⟨[_], ⟨rfl, trivial⟩, rfl⟩, (by repeat' (first | exact trivial | refine And.intro ⟨_, rfl, ?_⟩ ?_ | refine And.intro ⟨_, rfl⟩ ?_ | rfl | exact Box.ren_bytes _ _ _ _ | exact Box.ren_vals _ _ _ _ | exact Box.ren_mid rfl)), rfl, rfl⟩
theorem iClone_nil : PSpec Try.prog X 16 [Lnil] Lnil := by
  refine PSpec.intro Try.func16 rfl (by kernel_rfl) rfl rfl ?_
  intro C
  (refine LWP.seq <| LWP.region (by kernel_rfl) <| kas rfl <| RunK.nil <| LWP.seq <| LWP.seq <| LWP.region (by kernel_rfl) <| kmv rfl <| K.nilNil rfl (by kernel_rfl) (.inl ⟨rfl, rfl⟩) .plain <| RunK.nil <| LWP.condT rfl ?_; refine LWP.seq <| LWP.region (by kernel_rfl) <| kas rfl <| RunK.nil <| LWP.ret ?_)
  exact ⟨[_], ⟨rfl, trivial⟩, rfl⟩
set_option maxHeartbeats 3200000 in
theorem iClone (g : Nat) (l : List Ei) (hk : OkX g l) : MSpec Try.prog X 16 [Lp 1000000] [xB 1000000 g l] (Lp 1000001) [xB 1000000 g l, xB 1000001 g l] := by
  have hids := hk.ids
  refine MSpec.intro Try.func16 rfl (by kernel_rfl) rfl rfl (by exact (by repeat' (first | refine all_cons_true ?_ ?_ | rfl | exact bytes_inUse | exact vals_inUse | exact mid_inUse rfl))) rfl rfl ?_
  intro C
  refine LWP.ends (half_open fun H vi vf v L hO hI => ?_)
  have hLl := hI.free.le
  have h1 := kClSt (joinM X H) vi l hI.st (by omega)
  have h2 := kClFr (joinM X H) vf v L hI.fr (by omega)
  (refine LWP.seq <| LWP.region (by kernel_rfl) <| kas rfl <| RunK.nil <| LWP.seq <| LWP.seq <| LWP.region (by kernel_rfl) <| kmv rfl <| K.ptrNil rfl (by kernel_rfl) (.inl ⟨rfl, rfl⟩) .plain <| RunK.nil <| LWP.condF rfl ?_; refine LWP.skip ?_; refine LWP.seq <| LWP.draws mixed (by kernel_rfl) <| kmv rfl <| K.nilCheck rfl .plain <| kfa rfl rfl ?_; refine kl1 rfl rfl rfl <| kmv rfl <| K.nilCheck rfl .plain <| kfa rfl rfl ?_; refine kl1 rfl rfl rfl <| K.callMp [(1000001, 501)] (.sv (.one (.slc 501 0 l.length 2))) [stB 501 l] (h1) rfl rfl (by exact trivial) rfl rfl rfl rfl rfl (by exact (.box rfl (Box.ren_vals _ _ _ _) .nil)) .plain <| kmv rfl <| K.nilCheck rfl .plain <| kfa rfl rfl ?_; refine kl1 rfl rfl rfl <| K.callMp [(1000001, 502)] (.sv (.one (.slc 502 0 L 1))) [hpB 502 v L] (h2) rfl rfl (by exact trivial) rfl rfl rfl rfl rfl (by exact (.box rfl (Box.ren_vals _ _ _ _) .nil)) .plain <| K.build rfl rfl (by exact rfl) (by exact nl3 rfl rfl rfl rfl) .plain ?_; refine K.box rfl rfl rfl .plain <| kas rfl <| RunK.nil <| And.intro (by kernel_rfl) ?_; refine LWP.ret ?_)
  refine Leads.le (σ' := ⟨[(2, Lp 20)], oXr 20 502 501 g l v L true true [sxB 1000000 g (.val vi) (.val vf)], joinM (joinM X H) (fun _ => none)⟩) ?_ ?_
  · show Le _ _ _ ⟨_, _, joinM (joinM X H) (fun _ => none)⟩
    rw [joinM_nil]
    exact Le.of (by exact ⟨rfl, trivial⟩) (by exact ⟨rfl, rfl, rfl, rfl, trivial⟩) (by exact rfl) (by exact rfl) (by repeat' (first | refine all_cons_true ?_ ?_ | rfl | exact bytes_inUse | exact vals_inUse | exact mid_inUse rfl))
  refine ix_shut (OwnedM.nil C _) hI.free ⟨fun _ => rfl, fun _ _ => rfl, fun _ => rfl, rfl, fun _ => rfl, fun _ _ => rfl, fun _ => rfl, rfl, rfl, rfl, rfl, rfl, rfl⟩ ?_
  refine Leads.le (σ' := ⟨[(2, Lp 20)], [sxB 1000000 g (.val vi) (.val vf), xB 20 g l], joinM X H⟩) (Le.of (by exact ⟨rfl, trivial⟩) (by exact ⟨rfl, rfl, trivial⟩) (by exact rfl) (by exact rfl) (by repeat' (first | refine all_cons_true ?_ ?_ | rfl | exact bytes_inUse | exact vals_inUse | exact mid_inUse rfl))) ?_
  refine half_shut hO hI (Leads.done ?_)
  exact ⟨[(1000001, 20)], ⟨[_], ⟨rfl, trivial⟩, rfl⟩, (by repeat' (first | exact trivial | refine And.intro ⟨_, rfl, ?_⟩ ?_ | refine And.intro ⟨_, rfl⟩ ?_ | rfl | exact Box.ren_bytes _ _ _ _ | exact Box.ren_vals _ _ _ _ | exact Box.ren_mid rfl)), rfl, rfl⟩
theorem iSame_nil : PSpec Try.prog X 17 [Lnil, Lnil] (Lb true) := by
  refine PSpec.intro Try.func17 rfl (by kernel_rfl) rfl rfl ?_
  intro C
  (refine LWP.seq <| LWP.region (by kernel_rfl) <| kas rfl <| RunK.nil <| LWP.seq <| LWP.seq <| LWP.region (by kernel_rfl) <| kmv rfl <| K.nilNil rfl (by kernel_rfl) (.inl ⟨rfl, rfl⟩) .plain <| kmv rfl <| RunK.passed rfl rfl rfl <| RunK.passed rfl rfl rfl <| kpt rfl rfl <| RunK.nil ?_; refine LWP.condT rfl ?_; refine LWP.seq <| LWP.region (by kernel_rfl) <| kmv rfl <| kmv rfl <| K.nilTwo rfl rfl (by kernel_rfl) (.inl ⟨rfl, rfl⟩) .plain ?_; refine kas rfl <| RunK.nil <| LWP.ret ?_)
  exact ⟨[_], ⟨rfl, trivial⟩, rfl⟩
theorem iSame_one (g : Nat) (l : List Ei) (_ : OkX g l) : MSpec Try.prog X 17 [Lp 1000000, Lnil] [xB 1000000 g l] (Lb false) [xB 1000000 g l] := by
  refine MSpec.intro Try.func17 rfl (by kernel_rfl) rfl rfl (by exact (by repeat' (first | refine all_cons_true ?_ ?_ | rfl | exact bytes_inUse | exact vals_inUse | exact mid_inUse rfl))) rfl rfl ?_
  intro C
  (refine LWP.seq <| LWP.region (by kernel_rfl) <| kas rfl <| RunK.nil <| LWP.seq <| LWP.seq <| LWP.region (by kernel_rfl) <| kmv rfl <| K.ptrNil rfl (by kernel_rfl) (.inl ⟨rfl, rfl⟩) .plain <| kmv rfl <| gmv rfl rfl rfl <| K.nilNil rfl (by kernel_rfl) (.inl ⟨rfl, rfl⟩) (.taken rfl rfl) ?_; refine kpf rfl rfl <| RunK.nil <| LWP.condT rfl ?_; refine LWP.seq <| LWP.region (by kernel_rfl) <| kmv rfl <| kmv rfl <| K.ptrTwo rfl rfl (by kernel_rfl) (.inl ⟨rfl, rfl⟩) .plain ?_; refine kas rfl <| RunK.nil <| LWP.ret ?_)
  exact ⟨[], ⟨[_], ⟨rfl, trivial⟩, rfl⟩, (by repeat' (first | exact trivial | refine And.intro ⟨_, rfl, ?_⟩ ?_ | refine And.intro ⟨_, rfl⟩ ?_ | rfl | exact Box.ren_bytes _ _ _ _ | exact Box.ren_vals _ _ _ _ | exact Box.ren_mid rfl)), rfl, rfl⟩
set_option maxHeartbeats 3200000 in
theorem iSame (g h : Nat) (l m : List Ei) (hk : OkX g l) (hm : OkX h m) : MSpec Try.prog X 17 [Lp 1000000, Lp 1000001] [xB 1000000 g l, xB 1000001 h m] (Lb (sameI g l h m)) [xB 1000000 g l, xB 1000001 h m] := by
  have hids := hk.ids
  refine MSpec.intro Try.func17 rfl (by kernel_rfl) rfl rfl (by exact (by repeat' (first | refine all_cons_true ?_ ?_ | rfl | exact bytes_inUse | exact vals_inUse | exact mid_inUse rfl))) rfl rfl ?_
  intro C
  refine LWP.ends (half_open fun H vi vf v L hO hI => ?_)
  refine LWP.le (σ' := ⟨enumL 0 [Lp 1000000, Lp 1000001], [xB 1000001 h m, sxB 1000000 g (.val vi) (.val vf)], joinM X H⟩) (Le.of (by exact ⟨rfl, rfl, trivial⟩) (by exact ⟨rfl, rfl, trivial⟩) (by exact rfl) (by exact rfl) (by repeat' (first | refine all_cons_true ?_ ?_ | rfl | exact bytes_inUse | exact vals_inUse | exact mid_inUse rfl))) ?_
  refine half_open fun H2 vj vh v2 L2 hO2 hJ => ?_
  have hE := kEqSt (joinM (joinM X H) H2) vi vj l m (hI.st.more hO2) hJ.st (by omega)
  unfold sameI
  generalize decide (l.map cellE = m.map cellE) = ans at *
  by_cases e : g = h
  · subst e
    rw [decide_eq_true rfl, Bool.true_and]
    (refine LWP.seq <| LWP.region (by kernel_rfl) <| kas rfl <| RunK.nil <| LWP.seq <| LWP.seq <| LWP.region (by kernel_rfl) <| kmv rfl <| K.ptrNil rfl (by kernel_rfl) (.inl ⟨rfl, rfl⟩) .plain <| kmv rfl <| gmv rfl rfl rfl <| K.ptrNil rfl (by kernel_rfl) (.inl ⟨rfl, rfl⟩) (.taken rfl rfl) ?_; refine kpf rfl rfl <| RunK.nil <| LWP.condF rfl ?_; refine LWP.skip ?_; refine LWP.seq <| LWP.draws mixed (by kernel_rfl) <| kmv rfl <| K.nilCheck rfl .plain <| kfa rfl rfl ?_; refine kl1 rfl rfl rfl <| kmv rfl <| K.nilCheck rfl .plain <| kfa rfl rfl ?_; refine kl1 rfl rfl rfl <| keq rfl rfl (r := true) (by simp) <| kmv rfl <| gmv rfl rfl rfl <| K.nilCheck rfl (.taken rfl rfl) ?_; refine K.fieldAddr rfl rfl (.taken rfl rfl) ?_; refine K.loadOne rfl rfl rfl (.taken rfl rfl) ?_; refine gmv rfl rfl rfl <| K.nilCheck rfl (.taken rfl rfl) ?_; refine K.fieldAddr rfl rfl (.taken rfl rfl) ?_; refine K.loadOne rfl rfl rfl (.taken rfl rfl) ?_; refine gca rfl rfl hE rfl rfl <| kpt rfl rfl <| kas rfl <| RunK.nil <| And.intro (by kernel_rfl) ?_; refine LWP.ret ?_)
    refine half_shut hO2 hJ ?_
    refine Leads.le (σ' := ⟨[(4, Lb ans)], [sxB 1000000 g (.val vi) (.val vf), xB 1000001 g m], joinM X H⟩) (Le.of (by exact ⟨rfl, trivial⟩) (by exact ⟨rfl, rfl, trivial⟩) (by exact rfl) (by exact rfl) (by repeat' (first | refine all_cons_true ?_ ?_ | rfl | exact bytes_inUse | exact vals_inUse | exact mid_inUse rfl))) ?_
    refine half_shut hO hI (Leads.done ?_)
    exact ⟨[], ⟨[_], ⟨rfl, trivial⟩, rfl⟩, (by repeat' (first | exact trivial | refine And.intro ⟨_, rfl, ?_⟩ ?_ | refine And.intro ⟨_, rfl⟩ ?_ | rfl | exact Box.ren_bytes _ _ _ _ | exact Box.ren_vals _ _ _ _ | exact Box.ren_mid rfl)), rfl, rfl⟩
  · rw [decide_eq_false e, Bool.false_and]
    (refine LWP.seq <| LWP.region (by kernel_rfl) <| kas rfl <| RunK.nil <| LWP.seq <| LWP.seq <| LWP.region (by kernel_rfl) <| kmv rfl <| K.ptrNil rfl (by kernel_rfl) (.inl ⟨rfl, rfl⟩) .plain <| kmv rfl <| gmv rfl rfl rfl <| K.ptrNil rfl (by kernel_rfl) (.inl ⟨rfl, rfl⟩) (.taken rfl rfl) ?_; refine kpf rfl rfl <| RunK.nil <| LWP.condF rfl ?_; refine LWP.skip ?_; refine LWP.seq <| LWP.draws mixed (by kernel_rfl) <| kmv rfl <| K.nilCheck rfl .plain <| kfa rfl rfl ?_; refine kl1 rfl rfl rfl <| kmv rfl <| K.nilCheck rfl .plain <| kfa rfl rfl ?_; refine kl1 rfl rfl rfl <| keq rfl rfl (r := false) (beq_eq_false_iff_ne.2 (by omega)) <| kmv rfl <| RunK.passed rfl rfl rfl <| RunK.passed rfl rfl rfl <| RunK.passed rfl rfl rfl <| RunK.passed rfl rfl rfl <| RunK.passed rfl rfl rfl <| RunK.passed rfl rfl rfl <| RunK.passed rfl rfl rfl <| RunK.passed rfl rfl rfl <| RunK.passed rfl rfl rfl <| kpf rfl rfl <| kas rfl ?_; refine RunK.nil <| And.intro (by kernel_rfl) ?_; refine LWP.ret ?_)
    refine half_shut hO2 hJ ?_
    refine Leads.le (σ' := ⟨[(4, Lb false)], [sxB 1000000 g (.val vi) (.val vf), xB 1000001 h m], joinM X H⟩) (Le.of (by exact ⟨rfl, trivial⟩) (by exact ⟨rfl, rfl, trivial⟩) (by exact rfl) (by exact rfl) (by repeat' (first | refine all_cons_true ?_ ?_ | rfl | exact bytes_inUse | exact vals_inUse | exact mid_inUse rfl))) ?_
    refine half_shut hO hI (Leads.done ?_)
    exact ⟨[], ⟨[_], ⟨rfl, trivial⟩, rfl⟩, (by repeat' (first | exact trivial | refine And.intro ⟨_, rfl, ?_⟩ ?_ | refine And.intro ⟨_, rfl⟩ ?_ | rfl | exact Box.ren_bytes _ _ _ _ | exact Box.ren_vals _ _ _ _ | exact Box.ren_mid rfl)), rfl, rfl⟩
end Go.Proofs.Ytkdbkgfdggbhkaa
end
section
namespace Go.Proofs.Ytkdbkgfdggbhkaa
open Go Go.Lg
set_option maxRecDepth 100000
variable (X : Nat → Option Obj)
theorem iSpawn_nil : PSpec Try.prog X 9 [Lnil] (.tup [Sn .u64 0, Sn .i64 2]) := by
  refine PSpec.intro Try.func9 rfl (by kernel_rfl) rfl rfl ?_
  intro C
  (refine LWP.seq <| LWP.region (by kernel_rfl) <| kas rfl <| kas rfl <| RunK.nil <| LWP.seq <| LWP.seq <| LWP.region (by kernel_rfl) <| kmv rfl <| K.nilNil rfl (by kernel_rfl) (.inl ⟨rfl, rfl⟩) .plain <| RunK.nil <| LWP.condT rfl ?_; refine LWP.seq <| LWP.region (by kernel_rfl) <| kas rfl <| kas rfl <| RunK.nil <| LWP.ret ?_)
  exact ⟨[_, _], ⟨rfl, rfl, trivial⟩, rfl⟩
theorem iSpawn_no (g : Nat) (l : List Ei) (hk : OkX g l) (h : nextE l = none) : MSpec Try.prog X 9 [Lp 1000000] [xB 1000000 g l] (.tup [Sn .u64 0, Sn .i64 5]) [xB 1000000 g l] := by
  have hN := iNext X g l hk
  rw [nextH_none h] at hN
  refine MSpec.intro Try.func9 rfl (by kernel_rfl) rfl rfl (by exact (by repeat' (first | refine all_cons_true ?_ ?_ | rfl | exact bytes_inUse | exact vals_inUse | exact mid_inUse rfl))) rfl rfl ?_
  intro C
  (refine LWP.seq <| LWP.region (by kernel_rfl) <| kas rfl <| kas rfl <| RunK.nil <| LWP.seq <| LWP.seq <| LWP.region (by kernel_rfl) <| kmv rfl <| K.ptrNil rfl (by kernel_rfl) (.inl ⟨rfl, rfl⟩) .plain <| RunK.nil <| LWP.condF rfl ?_; refine LWP.skip ?_; refine LWP.seq <| LWP.region (by kernel_rfl) <| kmv rfl <| K.callR [(1000000, 1000000)] (hN) rfl rfl (by exact (And.intro ⟨_, rfl, rfl⟩ trivial)) (by exact (all_cons_true rfl rfl)) rfl rfl rfl rfl .plain <| kas rfl <| RunK.nil <| LWP.seq <| LWP.seq <| LWP.region (by kernel_rfl) <| kmv rfl <| keq rfl rfl (beq_iff_eq.2 (by omega)) <| RunK.nil <| LWP.condT rfl ?_; refine LWP.seq <| LWP.region (by kernel_rfl) <| kas rfl <| kas rfl <| RunK.nil <| LWP.ret ?_)
  exact ⟨[], ⟨[_, _], ⟨rfl, rfl, trivial⟩, rfl⟩, (by repeat' (first | exact trivial | refine And.intro ⟨_, rfl, ?_⟩ ?_ | refine And.intro ⟨_, rfl⟩ ?_ | rfl | exact Box.ren_bytes _ _ _ _ | exact Box.ren_vals _ _ _ _ | exact Box.ren_mid rfl)), rfl, rfl⟩
theorem hdl_pos {i gen : Nat} : (((hdl (i + 1) gen : Nat) : Int) == 0) = false := beq_eq_false_iff_ne.2 (by rw [hdl_int]; omega)
set_option maxHeartbeats 6400000 in
theorem iSpawn (g : Nat) (l : List Ei) (hk : OkX g l) {i gen : Nat} (h : nextE l = some i) (hx : l[i]? = some (gen, 0)) : MSpec Try.prog X 9 [Lp 1000000] [xB 1000000 g l] (.tup [Sn .u64 (hdl (i + 1) gen : Nat), Sn .i64 0]) [xB 1000000 g (l.set i (gen, 1))] := by
  have hN := iNext X g l hk
  rw [nextH_some h hx] at hN
  have hids := hk.ids
  have hlt := (List.getElem?_eq_some_iff.1 hx).1
  have hgo := (hk.ok _ (List.mem_of_getElem? hx)).1
  have hgb := hk.gens
  have hgl : gen < 4294967296 := by have : gen ≤ g := hgo.2; omega
  have hne := hdl_pos (i := i) (gen := gen)
  have hbig : hdl (i + 1) gen < 18446744073709551616 := by unfold hdl; omega
  have hId : ∀ Y, PSpec Try.prog Y 28 [Ln .u64 (hdl (i + 1) gen : Nat)] (Ln .i64 (i + 1 : Nat)) := fun Y => by
    have := iId Y (hdl (i + 1) gen) hbig
    rwa [hdl_id (by omega)] at this
  generalize hdl (i + 1) gen = e at *
  refine MSpec.intro Try.func9 rfl (by kernel_rfl) rfl rfl (by exact (by repeat' (first | refine all_cons_true ?_ ?_ | rfl | exact bytes_inUse | exact vals_inUse | exact mid_inUse rfl))) rfl rfl ?_
  intro C
  refine LWP.ends ?_
  (refine LWP.seq <| LWP.region (by kernel_rfl) <| kas rfl <| kas rfl <| RunK.nil <| LWP.seq <| LWP.seq <| LWP.region (by kernel_rfl) <| kmv rfl <| K.ptrNil rfl (by kernel_rfl) (.inl ⟨rfl, rfl⟩) .plain <| RunK.nil <| LWP.condF rfl ?_; refine LWP.skip ?_; refine LWP.seq <| LWP.region (by kernel_rfl) <| kmv rfl <| K.callR [(1000000, 1000000)] (hN) rfl rfl (by exact (And.intro ⟨_, rfl, rfl⟩ trivial)) (by exact (all_cons_true rfl rfl)) rfl rfl rfl rfl .plain <| kas rfl <| RunK.nil <| LWP.seq <| LWP.seq <| LWP.region (by kernel_rfl) <| kmv rfl <| keq rfl rfl hne <| RunK.nil <| LWP.condF rfl ?_; refine LWP.skip ?_; refine LWP.seq ?_)
  refine LWP.le (σ' := ⟨[(0, Lp 1000000), (4, Ln .u64 (e : Nat))], [xB 1000000 g l], X⟩) (Le.of (by exact ⟨rfl, rfl, trivial⟩) (by exact ⟨rfl, trivial⟩) (by exact rfl) (by exact rfl) (by exact rfl)) ?_
  refine ix_open (kf := 900001) (ks := 900002) ⟨fun _ => rfl, fun _ _ => rfl, fun _ => rfl, rfl, fun _ => rfl, fun _ _ => rfl, fun _ => rfl, rfl, rfl, rfl, rfl, rfl, rfl⟩ rfl rfl fun H v L hO hF => ?_
  obtain ⟨n, rfl⟩ : ∃ n, L = n + 1 := by
    have h1 := hF.len
    have h2 : freE l ≠ 0 := fun e => by rw [free_none.2 e] at h; cases h
    exact ⟨L - 1, by omega⟩
  have hLl := hF.le
  have hF2 := hF.pop h hx
  have hPop := hPop (joinM X H) (g : Int) l.length (stL l) v n (by omega)
  generalize popF v n = w at *
  have hsub : IntKind.i64.wrap (((i + 1 : Nat) : Int) - 1) = ((i : Nat) : Int) := by rw [wrap_i64 (by omega)]; omega
  have hix : 0 + Int.toNat ((i : Nat) : Int) * 2 = i * 2 := by simp
  have hs1 := stL_put (v := .bool true) (y := (gen, 1)) (k := 1) hx (by decide) rfl
  have hr1 : Nat.blt (i * 2 + 1) ((stL l).map CV.val).length = true := by rw [List.length_map, stL_len, Nat.blt_eq]; omega
  have hll : (l.set i (gen, 1)).length = l.length := List.length_set
  have hId := hId (joinM X H)
  (refine LWP.region (by kernel_rfl) <| kmv rfl <| K.nilCheck rfl .plain <| kfa rfl rfl ?_; refine K.mkIfaceP rfl (by kernel_rfl) .plain ?_; refine K.callMp [(1000001, 900001), (1000002, 900002)] (.sv (.one (.val (.iface 3 (.int .i64 (w n)))))) [sxB 1000000 g (.slc 900002 0 l.length 2) (.slc 900001 0 n 1), hpB 900001 w n, stB 900002 l] (hPop) rfl rfl (by exact (And.intro ⟨_, rfl, rfl⟩ (And.intro ⟨_, rfl, (Box.ren_vals _ _ _ _)⟩ (And.intro ⟨_, rfl, (Box.ren_vals _ _ _ _)⟩ trivial)))) (by exact (all_cons_true (all_cons_true rfl (all_cons_true rfl (all_cons_true rfl rfl))) (all_cons_true vals_inUse (all_cons_true vals_inUse rfl)))) rfl rfl rfl rfl (by exact (.box rfl rfl (.box rfl (Box.ren_vals _ _ _ _) (.box rfl (Box.ren_vals _ _ _ _) .nil)))) .plain <| RunK.nil <| LWP.seq <| LWP.draws mixed (by kernel_rfl) <| kmv rfl <| K.nilCheck rfl .plain <| kfa rfl rfl ?_; refine kl1 rfl rfl rfl <| kmv rfl <| kca rfl rfl (hId) <| K.sub rfl rfl hsub .plain <| K.indexSlc rfl rfl (by omega) hix .plain ?_; refine kfa rfl rfl ?_; refine K.storeOne rfl rfl rfl rfl hr1 hs1 .plain <| RunK.nil <| And.intro (by kernel_rfl) ?_; refine LWP.seq <| LWP.region (by kernel_rfl) <| kmv rfl <| kas rfl <| kas rfl <| RunK.nil <| LWP.ret ?_)
  refine Leads.le (σ' := ⟨[(2, Ln .u64 (e : Nat)), (3, Ln .i64 0)], oXr 1000000 900001 900002 g (l.set i (gen, 1)) w n true true [], joinM X H⟩) ?_ ?_
  · show Le _ _ _ ⟨_, [sxB 1000000 g (.slc 900002 0 (l.set i (gen, 1)).length 2) (.slc 900001 0 n 1), hpB 900001 w n, stB 900002 (l.set i (gen, 1))], _⟩
    rw [hll]
    exact Le.of (by exact ⟨rfl, rfl, trivial⟩) (by exact ⟨rfl, rfl, rfl, trivial⟩) (by exact rfl) (by exact rfl) (by repeat' (first | refine all_cons_true ?_ ?_ | rfl | exact bytes_inUse | exact vals_inUse | exact mid_inUse rfl))
  refine ix_shut hO hF2 ⟨fun _ => rfl, fun _ _ => rfl, fun _ => rfl, rfl, fun _ => rfl, fun _ _ => rfl, fun _ => rfl, rfl, rfl, rfl, rfl, rfl, rfl⟩ (Leads.done ?_)
  exact ⟨[], ⟨[_, _], ⟨rfl, rfl, trivial⟩, rfl⟩, (by repeat' (first | exact trivial | refine And.intro ⟨_, rfl, ?_⟩ ?_ | refine And.intro ⟨_, rfl⟩ ?_ | rfl | exact Box.ren_bytes _ _ _ _ | exact Box.ren_vals _ _ _ _ | exact Box.ren_mid rfl)), rfl, rfl⟩
theorem iKill_nil (h : Nat) : PSpec Try.prog X 10 [Lnil, Ln .u64 (h : Nat)] (Ln .i64 2) := by
  refine PSpec.intro Try.func10 rfl (by kernel_rfl) rfl rfl ?_
  intro C
  (refine LWP.seq <| LWP.region (by kernel_rfl) <| kas rfl <| RunK.nil <| LWP.seq <| LWP.seq <| LWP.region (by kernel_rfl) <| kmv rfl <| K.nilNil rfl (by kernel_rfl) (.inl ⟨rfl, rfl⟩) .plain <| RunK.nil <| LWP.condT rfl ?_; refine LWP.seq <| LWP.region (by kernel_rfl) <| kas rfl <| RunK.nil <| LWP.ret ?_)
  exact ⟨[_], ⟨rfl, trivial⟩, rfl⟩
theorem iKill_no (g : Nat) (l : List Ei) (hk : OkX g l) (h : Nat) (hh : h < 18446744073709551616) (ha : aliveB l h = false) : MSpec Try.prog X 10 [Lp 1000000, Ln .u64 (h : Nat)] [xB 1000000 g l] (Ln .i64 11) [xB 1000000 g l] := by
  have hA := iAlive X g l hk h hh
  rw [ha] at hA
  refine MSpec.intro Try.func10 rfl (by kernel_rfl) rfl rfl (by exact (by repeat' (first | refine all_cons_true ?_ ?_ | rfl | exact bytes_inUse | exact vals_inUse | exact mid_inUse rfl))) rfl rfl ?_
  intro C
  (refine LWP.seq <| LWP.region (by kernel_rfl) <| kas rfl <| RunK.nil <| LWP.seq <| LWP.seq <| LWP.region (by kernel_rfl) <| kmv rfl <| K.ptrNil rfl (by kernel_rfl) (.inl ⟨rfl, rfl⟩) .plain <| RunK.nil <| LWP.condF rfl ?_; refine LWP.skip ?_; refine LWP.seq <| LWP.seq <| LWP.region (by kernel_rfl) <| kmv rfl <| kmv rfl <| K.callR [(1000000, 1000000)] (hA) rfl rfl (by exact (And.intro ⟨_, rfl, rfl⟩ trivial)) (by exact (all_cons_true rfl rfl)) rfl rfl rfl rfl .plain <| K.not rfl rfl .plain <| RunK.nil <| LWP.condT rfl ?_; refine LWP.seq <| LWP.region (by kernel_rfl) <| kas rfl <| RunK.nil <| LWP.ret ?_)
  exact ⟨[], ⟨[_], ⟨rfl, trivial⟩, rfl⟩, (by repeat' (first | exact trivial | refine And.intro ⟨_, rfl, ?_⟩ ?_ | refine And.intro ⟨_, rfl⟩ ?_ | rfl | exact Box.ren_bytes _ _ _ _ | exact Box.ren_vals _ _ _ _ | exact Box.ren_mid rfl)), rfl, rfl⟩
theorem kill_cells (g gen : Nat) (hg : gen ≤ g) : stZ (killE g (gen, 1)) = [.int .i64 (gen + 1 : Nat), .bool false] := by
  unfold killE
  by_cases e : gen = g
  · rw [if_pos (show (gen, 1).1 = g from e)]; rfl
  · rw [if_neg (show ¬ (gen, 1).1 = g from e)]; rfl
set_option maxHeartbeats 6400000 in
theorem iKill (g : Nat) (l : List Ei) (hk : OkX g l) (h : Nat) (hh : h < 18446744073709551616) (ha : aliveB l h = true) {i gen : Nat} (hid : h % 4294967296 = i + 1) (hx : l[i]? = some (gen, 1)) : MSpec Try.prog X 10 [Lp 1000000, Ln .u64 (h : Nat)] [xB 1000000 g l] (Ln .i64 0) [xB 1000000 g (l.set i (killE g (gen, 1)))] := by
  have hA := iAlive X g l hk h hh
  rw [ha] at hA
  have hq : h / 4294967296 = gen := by
    unfold aliveB at ha
    rw [hid] at ha
    generalize h / 4294967296 = q at *
    unfold aliveP at ha
    rw [who_suc, hx] at ha
    have := (Bool.and_eq_true_iff.1 ha).2
    exact (beq_iff_eq.1 this).symm
  have hId : ∀ Y, PSpec Try.prog Y 28 [Ln .u64 (h : Nat)] (Ln .i64 (i + 1 : Nat)) := fun Y => by
    have := iId Y h hh
    rwa [hid] at this
  have hGe : ∀ Y, PSpec Try.prog Y 29 [Ln .u64 (h : Nat)] (Ln .i64 (gen : Nat)) := fun Y => by
    have := iGen Y h hh
    rwa [hq] at this
  have hids := hk.ids
  have hlt := (List.getElem?_eq_some_iff.1 hx).1
  have hgo := (hk.ok _ (List.mem_of_getElem? hx)).1
  have hgb := hk.gens
  have hg1 : 1 ≤ gen := hgo.1
  have hg2 : gen ≤ g := hgo.2
  refine MSpec.intro Try.func10 rfl (by kernel_rfl) rfl rfl (by exact (by repeat' (first | refine all_cons_true ?_ ?_ | rfl | exact bytes_inUse | exact vals_inUse | exact mid_inUse rfl))) rfl rfl ?_
  intro C
  refine LWP.ends ?_
  (refine LWP.seq <| LWP.region (by kernel_rfl) <| kas rfl <| RunK.nil <| LWP.seq <| LWP.seq <| LWP.region (by kernel_rfl) <| kmv rfl <| K.ptrNil rfl (by kernel_rfl) (.inl ⟨rfl, rfl⟩) .plain <| RunK.nil <| LWP.condF rfl ?_; refine LWP.skip ?_; refine LWP.seq <| LWP.seq <| LWP.region (by kernel_rfl) <| kmv rfl <| kmv rfl <| K.callR [(1000000, 1000000)] (hA) rfl rfl (by exact (And.intro ⟨_, rfl, rfl⟩ trivial)) (by exact (all_cons_true rfl rfl)) rfl rfl rfl rfl .plain <| K.not rfl rfl .plain <| RunK.nil <| LWP.condF rfl ?_; refine LWP.skip ?_; refine LWP.seq ?_)
  refine LWP.le (σ' := ⟨[(0, Lp 1000000), (1, Ln .u64 (h : Nat))], [xB 1000000 g l], X⟩) (Le.of (by exact ⟨rfl, rfl, trivial⟩) (by exact ⟨rfl, trivial⟩) (by exact rfl) (by exact rfl) (by exact rfl)) ?_
  refine ix_open (kf := 900001) (ks := 900002) ⟨fun _ => rfl, fun _ _ => rfl, fun _ => rfl, rfl, fun _ => rfl, fun _ _ => rfl, fun _ => rfl, rfl, rfl, rfl, rfl, rfl, rfl⟩ rfl rfl fun H v L hO hF => ?_
  have hLl := hF.le
  have hId := hId (joinM X H)
  have hGe := hGe (joinM X H)
  have hsub : IntKind.i64.wrap (((i + 1 : Nat) : Int) - 1) = ((i : Nat) : Int) := by rw [wrap_i64 (by omega)]; omega
  have hadd : IntKind.i64.wrap (((gen : Nat) : Int) + 1) = ((gen + 1 : Nat) : Int) := by rw [wrap_i64 (by omega)]; omega
  have hix : 0 + Int.toNat ((i : Nat) : Int) * 2 = i * 2 := by simp
  have hz := kill_cells g gen hg2
  have hs1 := stL_splice hx (killE g (gen, 1))
  rw [hz] at hs1
  have hr1 : i * 2 + 2 ≤ ((stL l).map CV.val).length := by rw [List.length_map, stL_len]; omega
  have hll : (l.set i (killE g (gen, 1))).length = l.length := List.length_set
  by_cases c : gen = g
  · have hF2 : FreeH (l.set i (killE g (gen, 1))) v L := hF.keep hx (by unfold killE; rw [if_pos (show (gen, 1).1 = g from c)]; rfl)
    generalize l.set i (killE g (gen, 1)) = m at *
    (refine LWP.region (by kernel_rfl) <| kmv rfl <| kca rfl rfl (hId) <| kas rfl <| RunK.nil <| LWP.seq <| LWP.draws mixed (by kernel_rfl) <| kmv rfl <| K.nilCheck rfl .plain <| kfa rfl rfl ?_; refine kl1 rfl rfl rfl <| kmv rfl <| K.sub rfl rfl hsub .plain <| kmv rfl <| kca rfl rfl (hGe) <| kad rfl rfl hadd <| K.build rfl rfl (by exact rfl) (by exact nl2 rfl rfl rfl) .plain ?_; refine K.indexSlc rfl rfl (by omega) hix .plain ?_; refine K.store rfl rfl rfl rfl (by kernel_rfl) hr1 hs1 .plain <| RunK.nil <| And.intro (by kernel_rfl) ?_; refine LWP.seq <| LWP.seq <| LWP.draws mixed (by kernel_rfl) <| kmv rfl <| kca rfl rfl (hGe) <| kmv rfl <| K.nilCheck rfl .plain <| kfa rfl rfl ?_; refine kl1 rfl rfl rfl <| klt rfl rfl (decide_eq_false (by omega)) <| RunK.nil <| And.intro (by kernel_rfl) ?_; refine LWP.condF rfl ?_; refine LWP.skip ?_; refine LWP.seq <| LWP.region (by kernel_rfl) <| kas rfl <| RunK.nil <| LWP.ret ?_)
    refine Leads.le (σ' := ⟨[(4, Ln .i64 0)], oXr 1000000 900001 900002 g m v L true true [], joinM X H⟩) ?_ ?_
    · show Le _ _ _ ⟨_, [sxB 1000000 g (.slc 900002 0 m.length 2) (.slc 900001 0 L 1), hpB 900001 v L, stB 900002 m], _⟩
      rw [hll]
      exact Le.of (by exact ⟨rfl, trivial⟩) (by exact ⟨rfl, rfl, rfl, trivial⟩) (by exact rfl) (by exact rfl) (by repeat' (first | refine all_cons_true ?_ ?_ | rfl | exact bytes_inUse | exact vals_inUse | exact mid_inUse rfl))
    refine ix_shut hO hF2 ⟨fun _ => rfl, fun _ _ => rfl, fun _ => rfl, rfl, fun _ => rfl, fun _ _ => rfl, fun _ => rfl, rfl, rfl, rfl, rfl, rfl, rfl⟩ (Leads.done ?_)
    exact ⟨[], ⟨[_], ⟨rfl, trivial⟩, rfl⟩, (by repeat' (first | exact trivial | refine And.intro ⟨_, rfl, ?_⟩ ?_ | refine And.intro ⟨_, rfl⟩ ?_ | rfl | exact Box.ren_bytes _ _ _ _ | exact Box.ren_vals _ _ _ _ | exact Box.ren_mid rfl)), rfl, rfl⟩
  · have hF2 := hF.push (y := killE g (gen, 1)) hx rfl (by unfold killE; rw [if_neg (show ¬ (gen, 1).1 = g from c)]; rfl)
    have hP := hPush (joinM X H) (g : Int) l.length (stL (l.set i (killE g (gen, 1)))) v L ((i + 1 : Nat) : Int) (by omega)
    generalize upF ilt L (setV v L ((i + 1 : Nat) : Int)) L = w at *
    generalize l.set i (killE g (gen, 1)) = m at *
    (refine LWP.region (by kernel_rfl) <| kmv rfl <| kca rfl rfl (hId) <| kas rfl <| RunK.nil <| LWP.seq <| LWP.draws mixed (by kernel_rfl) <| kmv rfl <| K.nilCheck rfl .plain <| kfa rfl rfl ?_; refine kl1 rfl rfl rfl <| kmv rfl <| K.sub rfl rfl hsub .plain <| kmv rfl <| kca rfl rfl (hGe) <| kad rfl rfl hadd <| K.build rfl rfl (by exact rfl) (by exact nl2 rfl rfl rfl) .plain ?_; refine K.indexSlc rfl rfl (by omega) hix .plain ?_; refine K.store rfl rfl rfl rfl (by kernel_rfl) hr1 hs1 .plain <| RunK.nil <| And.intro (by kernel_rfl) ?_; refine LWP.seq <| LWP.seq <| LWP.draws mixed (by kernel_rfl) <| kmv rfl <| kca rfl rfl (hGe) <| kmv rfl <| K.nilCheck rfl .plain <| kfa rfl rfl ?_; refine kl1 rfl rfl rfl <| klt rfl rfl (decide_eq_true (by omega)) <| RunK.nil <| And.intro (by kernel_rfl) ?_; refine LWP.condT rfl ?_; refine LWP.region (by kernel_rfl) <| kmv rfl <| K.nilCheck rfl .plain <| kfa rfl rfl ?_; refine K.mkIfaceP rfl (by kernel_rfl) .plain ?_; refine kmv rfl <| K.mkIface rfl (by kernel_rfl) .plain ?_; refine K.callMp [(1000001, 900001), (1000002, 900002), (1000003, 501)] (.tup []) [sxB 1000000 g (.slc 900002 0 l.length 2) (.slc 501 0 (L + 1) 1), hpB 501 w (L + 1), stB 900002 m, (900001, none)] (hP) rfl rfl (by exact (And.intro ⟨_, rfl, rfl⟩ (And.intro ⟨_, rfl, (Box.ren_vals _ _ _ _)⟩ (And.intro ⟨_, rfl, (Box.ren_vals _ _ _ _)⟩ trivial)))) (by exact (all_cons_true (all_cons_true rfl (all_cons_true rfl (all_cons_true rfl rfl))) (all_cons_true vals_inUse (all_cons_true vals_inUse rfl)))) rfl rfl rfl rfl (by exact (.box rfl rfl (.box rfl (Box.ren_vals _ _ _ _) (.box rfl (Box.ren_vals _ _ _ _) (.dead rfl .nil))))) .plain <| RunK.nil <| LWP.seq <| LWP.region (by kernel_rfl) <| kas rfl <| RunK.nil <| LWP.ret ?_)
    refine Leads.le (σ' := ⟨[(4, Ln .i64 0)], oXr 1000000 501 900002 g m w (L + 1) true true [], joinM X H⟩) ?_ ?_
    · show Le _ _ _ ⟨_, [sxB 1000000 g (.slc 900002 0 m.length 2) (.slc 501 0 (L + 1) 1), hpB 501 w (L + 1), stB 900002 m], _⟩
      rw [hll]
      exact Le.of (by exact ⟨rfl, trivial⟩) (by exact ⟨rfl, rfl, rfl, trivial⟩) (by exact rfl) (by exact rfl) (by repeat' (first | refine all_cons_true ?_ ?_ | rfl | exact bytes_inUse | exact vals_inUse | exact mid_inUse rfl))
    refine ix_shut hO hF2 ⟨fun _ => rfl, fun _ _ => rfl, fun _ => rfl, rfl, fun _ => rfl, fun _ _ => rfl, fun _ => rfl, rfl, rfl, rfl, rfl, rfl, rfl⟩ (Leads.done ?_)
    exact ⟨[], ⟨[_], ⟨rfl, trivial⟩, rfl⟩, (by repeat' (first | exact trivial | refine And.intro ⟨_, rfl, ?_⟩ ?_ | refine And.intro ⟨_, rfl⟩ ?_ | rfl | exact Box.ren_bytes _ _ _ _ | exact Box.ren_vals _ _ _ _ | exact Box.ren_mid rfl)), rfl, rfl⟩
end Go.Proofs.Ytkdbkgfdggbhkaa
end
section
namespace Go.Proofs.Ytkdbkgfdggbhkaa
open Go Go.Lg
theorem okN {g : Nat} {l : List Ei} (h : OkX g l) {i gen : Nat} (hx : l[i]? = some (gen, 0)) : 1 ≤ gen ∧ gen ≤ 65535 := by
  have := (h.ok _ (List.mem_of_getElem? hx)).1
  have := h.gens
  omega
theorem hdl_lt {i gen : Nat} (hi : i < 4294967296) (hg : gen < 4294967296) : hdl i gen < 18446744073709551616 := by unfold hdl; omega
end Go.Proofs.Ytkdbkgfdggbhkaa
end
section
namespace Go.Proofs.Ytkdbkgfdggbhkaa
open Go Go.Lg
set_option maxRecDepth 100000
theorem h15a : ((hdl (0 + 1) 1 : Nat) : Int) = 4294967297 := by decide
theorem h15b : ((hdl (1 + 1) 1 : Nat) : Int) = 4294967298 := by decide
theorem h15d : ((hdl (0 + 1) 2 : Nat) : Int) = 8589934593 := by decide
theorem ok15 {g : Nat} {l : List Ei} (h1 : 1 ≤ l.length ∧ l.length ≤ 256) (h2 : 1 ≤ g ∧ g ≤ 65535) (h : l.all (fun x => decide (1 ≤ x.1 ∧ x.1 ≤ g) && (decide (x.2 ≤ 2) && (decide (x.2 ≠ 2) || decide (x.1 = g)))) = true) : OkX g l := ⟨h1, h2, fun x hx => by
  have := List.all_eq_true.1 h x hx
  simp only [Bool.and_eq_true, Bool.or_eq_true, decide_eq_true_eq] at this
  refine ⟨this.1, this.2.1, fun e => ?_⟩
  rcases this.2.2 with h | h
  · exact absurd e h
  · exact h⟩
variable (X : Nat → Option Obj)
set_option maxHeartbeats 6400000 in
theorem awake15_spec : PSpec Try.prog X 7 [] (Lb true) := by
  refine PSpec.intro Try.func7 rfl (by kernel_rfl) rfl rfl ?_
  intro C
  have n1 : MSpec Try.prog X 8 [Ln .i64 2, Ln .i64 1] [] (Lp 1000001) [xB 1000001 1 [(1, 0), (1, 0)]] := iNew X 2 1 (by decide) (by decide)
  have n2 : MSpec Try.prog X 8 [Ln .i64 1, Ln .i64 2] [] (Lp 1000001) [xB 1000001 2 [(1, 0)]] := iNew X 1 2 (by decide) (by decide)
  have n3 := iNew_no X 0 1 (.inl (by decide))
  have s1 := iSpawn X 1 [(1, 0), (1, 0)] (ok15 (by decide) (by decide) rfl) (i := 0) (gen := 1) rfl rfl
  have s2 := iSpawn X 1 [(1, 1), (1, 0)] (ok15 (by decide) (by decide) rfl) (i := 1) (gen := 1) rfl rfl
  have k1 := iKill X 1 [(1, 1), (1, 1)] (ok15 (by decide) (by decide) rfl) 4294967297 (by decide) (i := 0) (gen := 1) (by decide) (by decide) rfl
  have k2 := iKill_no X 1 [(1, 2), (1, 1)] (ok15 (by decide) (by decide) rfl) 4294967297 (by decide) (by decide)
  have s3 := iSpawn_no X 1 [(1, 2), (1, 1)] (ok15 (by decide) (by decide) rfl) rfl
  have s4 := iSpawn X 2 [(1, 0)] (ok15 (by decide) (by decide) rfl) (i := 0) (gen := 1) rfl rfl
  have k3 := iKill X 2 [(1, 1)] (ok15 (by decide) (by decide) rfl) 4294967297 (by decide) (i := 0) (gen := 1) (by decide) (by decide) rfl
  have s5 := iSpawn X 2 [(2, 0)] (ok15 (by decide) (by decide) rfl) (i := 0) (gen := 2) rfl rfl
  have c1 := iCount X 1 [(1, 2), (1, 1)] (ok15 (by decide) (by decide) rfl)
  have f1 := iFree X 1 [(1, 2), (1, 1)] (ok15 (by decide) (by decide) rfl)
  have d1 := iId X 8589934593 (by decide)
  have d2 := iGen X 8589934593 (by decide)
  rw [h15a] at s1 s4
  rw [h15b] at s2
  rw [h15d] at s5
  (refine LWP.seq <| LWP.region (by kernel_rfl) <| kas rfl <| RunK.nil <| LWP.seq <| LWP.region (by kernel_rfl) <| K.callMp [(1000001, 500)] (Lp 500) [xB 500 1 [(1, 0), (1, 0)]] (n1) rfl rfl (by exact trivial) rfl rfl rfl rfl rfl (by exact (.box rfl rfl .nil)) .plain <| kas rfl <| RunK.nil <| LWP.seq <| LWP.region (by kernel_rfl) <| kmv rfl <| K.callM [(1000000, 500)] [xB 500 1 [(1, 1), (1, 0)]] (s1) rfl rfl (by exact (And.intro ⟨_, rfl, rfl⟩ trivial)) (by exact (all_cons_true rfl rfl)) rfl rfl rfl rfl (by exact (.box rfl rfl .nil)) .plain <| kmv rfl ?_; refine kex rfl rfl <| kex rfl rfl <| kas rfl <| kas rfl <| RunK.nil <| LWP.seq <| LWP.region (by kernel_rfl) <| kmv rfl <| K.callM [(1000000, 500)] [xB 500 1 [(1, 1), (1, 1)]] (s2) rfl rfl (by exact (And.intro ⟨_, rfl, rfl⟩ trivial)) (by exact (all_cons_true rfl rfl)) rfl rfl rfl rfl (by exact (.box rfl rfl .nil)) .plain <| kmv rfl <| kex rfl rfl <| kex rfl rfl <| kas rfl <| kas rfl ?_; refine RunK.nil <| LWP.seq <| LWP.region (by kernel_rfl) <| kmv rfl <| kmv rfl <| K.callM [(1000000, 500)] [xB 500 1 [(1, 2), (1, 1)]] (k1) rfl rfl (by exact (And.intro ⟨_, rfl, rfl⟩ trivial)) (by exact (all_cons_true rfl rfl)) rfl rfl rfl rfl (by exact (.box rfl rfl .nil)) .plain <| kas rfl <| RunK.nil <| LWP.seq <| LWP.region (by kernel_rfl) <| kmv rfl <| kmv rfl <| K.callM [(1000000, 500)] [xB 500 1 [(1, 2), (1, 1)]] (k2) rfl rfl (by exact (And.intro ⟨_, rfl, rfl⟩ trivial)) (by exact (all_cons_true rfl rfl)) rfl rfl rfl rfl (by exact (.box rfl rfl .nil)) .plain <| kas rfl ?_; refine RunK.nil <| LWP.seq <| LWP.region (by kernel_rfl) <| kmv rfl <| K.callM [(1000000, 500)] [xB 500 1 [(1, 2), (1, 1)]] (s3) rfl rfl (by exact (And.intro ⟨_, rfl, rfl⟩ trivial)) (by exact (all_cons_true rfl rfl)) rfl rfl rfl rfl (by exact (.box rfl rfl .nil)) .plain <| kmv rfl <| kex rfl rfl <| kex rfl rfl <| kas rfl <| kas rfl <| RunK.nil <| LWP.seq <| LWP.region (by kernel_rfl) <| K.callMp [(1000001, 501)] (Lp 501) [xB 501 2 [(1, 0)]] (n2) rfl rfl (by exact trivial) rfl rfl rfl rfl rfl (by exact (.box rfl rfl .nil)) .plain ?_; refine kas rfl <| RunK.nil <| LWP.seq <| LWP.region (by kernel_rfl) <| kmv rfl <| K.callM [(1000000, 501)] [xB 501 2 [(1, 1)]] (s4) rfl rfl (by exact (And.intro ⟨_, rfl, rfl⟩ trivial)) (by exact (all_cons_true rfl rfl)) rfl rfl rfl rfl (by exact (.box rfl rfl .nil)) .plain <| kmv rfl <| kex rfl rfl <| kex rfl rfl <| kas rfl <| kas rfl <| RunK.nil <| LWP.seq <| LWP.region (by kernel_rfl) ?_; refine kmv rfl <| kmv rfl <| K.callM [(1000000, 501)] [xB 501 2 [(2, 0)]] (k3) rfl rfl (by exact (And.intro ⟨_, rfl, rfl⟩ trivial)) (by exact (all_cons_true rfl rfl)) rfl rfl rfl rfl (by exact (.box rfl rfl .nil)) .plain <| RunK.nil <| LWP.seq <| LWP.region (by kernel_rfl) <| kmv rfl <| K.callM [(1000000, 501)] [xB 501 2 [(2, 1)]] (s5) rfl rfl (by exact (And.intro ⟨_, rfl, rfl⟩ trivial)) (by exact (all_cons_true rfl rfl)) rfl rfl rfl rfl (by exact (.box rfl rfl .nil)) .plain <| kmv rfl <| kex rfl rfl <| kex rfl rfl <| kas rfl <| kas rfl <| RunK.nil ?_; refine LWP.seq ?_)
  (refine LWP.region (by kernel_rfl) <| kmv rfl <| keq rfl rfl (r := true) rfl <| kmv rfl <| gmv rfl rfl rfl <| K.eql rfl rfl (r := true) rfl (.taken rfl rfl) ?_; refine kpt rfl rfl <| kmv rfl <| gmv rfl rfl rfl <| K.eql rfl rfl (r := true) rfl (.taken rfl rfl) ?_; refine kpt rfl rfl <| kmv rfl <| gmv rfl rfl rfl <| K.eql rfl rfl (r := true) rfl (.taken rfl rfl) ?_; refine kpt rfl rfl <| kmv rfl <| gmv rfl rfl rfl <| K.eql rfl rfl (r := true) rfl (.taken rfl rfl) ?_; refine kpt rfl rfl <| kmv rfl <| gmv rfl rfl rfl <| K.eql rfl rfl (r := true) rfl (.taken rfl rfl) ?_; refine kpt rfl rfl <| kmv rfl <| gmv rfl rfl rfl <| K.eql rfl rfl (r := true) rfl (.taken rfl rfl) ?_; refine kpt rfl rfl <| kmv rfl <| gmv rfl rfl rfl <| K.callM [(1000000, 500)] [xB 500 1 [(1, 2), (1, 1)]] (c1) rfl rfl (by exact (And.intro ⟨_, rfl, rfl⟩ trivial)) (by exact (all_cons_true rfl rfl)) rfl rfl rfl rfl (by exact (.box rfl rfl .nil)) (.taken rfl rfl) ?_; refine K.eql rfl rfl (r := true) rfl (.taken rfl rfl) ?_; refine kpt rfl rfl <| kmv rfl <| gmv rfl rfl rfl <| K.callM [(1000000, 500)] [xB 500 1 [(1, 2), (1, 1)]] (f1) rfl rfl (by exact (And.intro ⟨_, rfl, rfl⟩ trivial)) (by exact (all_cons_true rfl rfl)) rfl rfl rfl rfl (by exact (.box rfl rfl .nil)) (.taken rfl rfl) ?_; refine K.eql rfl rfl (r := true) rfl (.taken rfl rfl) ?_; refine kpt rfl rfl <| kmv rfl <| gmv rfl rfl rfl <| K.eql rfl rfl (r := true) rfl (.taken rfl rfl) ?_; refine kpt rfl rfl <| kmv rfl <| gmv rfl rfl rfl <| gca rfl rfl d1 rfl rfl <| K.eql rfl rfl (r := true) rfl (.taken rfl rfl) ?_; refine kpt rfl rfl <| kmv rfl <| gmv rfl rfl rfl <| gca rfl rfl d2 rfl rfl <| K.eql rfl rfl (r := true) rfl (.taken rfl rfl) ?_; refine kpt rfl rfl <| kmv rfl <| gca rfl rfl n3 rfl rfl <| K.nilNil rfl (by kernel_rfl) (.inl ⟨rfl, rfl⟩) (.taken rfl rfl) ?_; refine kpt rfl rfl <| kas rfl <| RunK.nil <| LWP.ret ?_)
  exact ⟨[_], ⟨rfl, trivial⟩, rfl⟩
end Go.Proofs.Ytkdbkgfdggbhkaa
end
section
namespace Go.Proofs.Ytkdbkgfdggbhkaa
open Go Go.Lg
set_option maxRecDepth 100000
variable (X : Nat → Option Obj)
set_option maxHeartbeats 3200000 in
theorem entityHandles_law (id gen : Int) (e : Nat) (he : e < 18446744073709551616) (hid : -9223372036854775808 ≤ id ∧ id < 9223372036854775808) (hgen : -9223372036854775808 ≤ gen ∧ gen < 9223372036854775808) :
    PSpec Try.prog X 4 [Ln .i64 id, Ln .i64 gen, Ln .u64 (e : Nat)] (Lb true) := by
  have hW := awake15_spec X
  have hO := iOf X id gen
  have hI := iId X e he
  have hG := iGen X e he
  obtain ⟨p, hp⟩ : ∃ p, e % 4294967296 = p := ⟨_, rfl⟩
  obtain ⟨q, hq⟩ : ∃ q, e / 4294967296 = q := ⟨_, rfl⟩
  have hmod : (((e : Nat) : Int)).tmod 4294967296 = ((p : Nat) : Int) := by rw [← hp]; rfl
  have hquo : IntKind.u64.wrap ((((e : Nat) : Int)).tdiv 4294967296) = ((q : Nat) : Int) := by
    rw [show (((e : Nat) : Int)).tdiv 4294967296 = ((e / 4294967296 : Nat) : Int) from rfl, hq]
    exact wrap_u64 (by omega)
  have hw1 : IntKind.i64.wrap ((p : Nat) : Int) = ((p : Nat) : Int) := wrap_i64 (by omega)
  have hw2 : IntKind.i64.wrap ((q : Nat) : Int) = ((q : Nat) : Int) := wrap_i64 (by omega)
  rw [hp] at hI
  rw [hq] at hG
  refine PSpec.intro Try.func4 rfl (by kernel_rfl) rfl rfl ?_
  intro C
  by_cases c1 : 1 ≤ id
  case neg =>
    rw [show ofH id gen = 0 from if_neg (by omega)] at hO
    (refine LWP.seq <| LWP.region (by kernel_rfl) <| kas rfl <| RunK.nil <| LWP.seq <| LWP.seq <| LWP.region (by kernel_rfl) <| kca rfl rfl (hW) <| K.not rfl rfl .plain <| RunK.nil <| LWP.condF rfl ?_; refine LWP.skip ?_; refine LWP.seq <| LWP.region (by kernel_rfl) <| kas rfl <| RunK.nil <| LWP.seq <| LWP.seq <| LWP.region (by kernel_rfl) <| kmv rfl <| K.geq rfl rfl (decide_eq_false (by omega)) .plain <| kmv rfl <| RunK.passed rfl rfl rfl <| RunK.passed rfl rfl rfl <| kpf rfl rfl <| kmv rfl ?_; refine RunK.passed rfl rfl rfl <| RunK.passed rfl rfl rfl <| kpf rfl rfl <| kmv rfl <| RunK.passed rfl rfl rfl <| RunK.passed rfl rfl rfl <| kpf rfl rfl <| RunK.nil <| LWP.condF rfl ?_; refine LWP.skip ?_; refine LWP.seq <| LWP.region (by kernel_rfl) <| kmv rfl <| kmv rfl <| kca rfl rfl hO <| kmv rfl <| keq rfl rfl (r := true) (beq_self_eq_true _) <| kmv rfl <| gmv rfl rfl rfl <| gca rfl rfl hI rfl rfl <| gmv rfl rfl rfl <| K.rem rfl rfl (by decide) hmod (.taken rfl rfl) ?_; refine K.conv rfl hw1 (.taken rfl rfl) ?_; refine K.eql rfl rfl (r := true) (beq_self_eq_true _) (.taken rfl rfl) ?_; refine kpt rfl rfl <| kmv rfl <| gmv rfl rfl rfl <| gca rfl rfl hG rfl rfl <| gmv rfl rfl rfl <| K.quo rfl rfl (by decide) hquo (.taken rfl rfl) ?_; refine K.conv rfl hw2 (.taken rfl rfl) ?_; refine K.eql rfl rfl (r := true) (beq_self_eq_true _) (.taken rfl rfl) ?_; refine kpt rfl rfl <| kas rfl <| RunK.nil <| LWP.ret ?_)
    exact ⟨[_], ⟨rfl, trivial⟩, rfl⟩
  by_cases c2 : id < 4294967296
  case neg =>
    rw [show ofH id gen = 0 from if_neg (by omega)] at hO
    (refine LWP.seq <| LWP.region (by kernel_rfl) <| kas rfl <| RunK.nil <| LWP.seq <| LWP.seq <| LWP.region (by kernel_rfl) <| kca rfl rfl (hW) <| K.not rfl rfl .plain <| RunK.nil <| LWP.condF rfl ?_; refine LWP.skip ?_; refine LWP.seq <| LWP.region (by kernel_rfl) <| kas rfl <| RunK.nil <| LWP.seq <| LWP.seq <| LWP.region (by kernel_rfl) <| kmv rfl <| K.geq rfl rfl (decide_eq_true (by omega)) .plain <| kmv rfl <| gmv rfl rfl rfl <| K.lss rfl rfl (decide_eq_false (by omega)) (.taken rfl rfl) ?_; refine kpt rfl rfl <| kmv rfl <| RunK.passed rfl rfl rfl <| RunK.passed rfl rfl rfl <| kpf rfl rfl <| kmv rfl <| RunK.passed rfl rfl rfl <| RunK.passed rfl rfl rfl <| kpf rfl rfl <| RunK.nil <| LWP.condF rfl ?_; refine LWP.skip ?_; refine LWP.seq <| LWP.region (by kernel_rfl) <| kmv rfl <| kmv rfl <| kca rfl rfl hO <| kmv rfl <| keq rfl rfl (r := true) (beq_self_eq_true _) <| kmv rfl <| gmv rfl rfl rfl <| gca rfl rfl hI rfl rfl <| gmv rfl rfl rfl <| K.rem rfl rfl (by decide) hmod (.taken rfl rfl) ?_; refine K.conv rfl hw1 (.taken rfl rfl) ?_; refine K.eql rfl rfl (r := true) (beq_self_eq_true _) (.taken rfl rfl) ?_; refine kpt rfl rfl <| kmv rfl <| gmv rfl rfl rfl <| gca rfl rfl hG rfl rfl <| gmv rfl rfl rfl <| K.quo rfl rfl (by decide) hquo (.taken rfl rfl) ?_; refine K.conv rfl hw2 (.taken rfl rfl) ?_; refine K.eql rfl rfl (r := true) (beq_self_eq_true _) (.taken rfl rfl) ?_; refine kpt rfl rfl <| kas rfl <| RunK.nil <| LWP.ret ?_)
    exact ⟨[_], ⟨rfl, trivial⟩, rfl⟩
  by_cases c3 : 1 ≤ gen
  case neg =>
    rw [show ofH id gen = 0 from if_neg (by omega)] at hO
    (refine LWP.seq <| LWP.region (by kernel_rfl) <| kas rfl <| RunK.nil <| LWP.seq <| LWP.seq <| LWP.region (by kernel_rfl) <| kca rfl rfl (hW) <| K.not rfl rfl .plain <| RunK.nil <| LWP.condF rfl ?_; refine LWP.skip ?_; refine LWP.seq <| LWP.region (by kernel_rfl) <| kas rfl <| RunK.nil <| LWP.seq <| LWP.seq <| LWP.region (by kernel_rfl) <| kmv rfl <| K.geq rfl rfl (decide_eq_true (by omega)) .plain <| kmv rfl <| gmv rfl rfl rfl <| K.lss rfl rfl (decide_eq_true (by omega)) (.taken rfl rfl) ?_; refine kpt rfl rfl <| kmv rfl <| gmv rfl rfl rfl <| K.geq rfl rfl (decide_eq_false (by omega)) (.taken rfl rfl) ?_; refine kpt rfl rfl <| kmv rfl <| RunK.passed rfl rfl rfl <| RunK.passed rfl rfl rfl <| kpf rfl rfl <| RunK.nil <| LWP.condF rfl ?_; refine LWP.skip ?_; refine LWP.seq <| LWP.region (by kernel_rfl) <| kmv rfl <| kmv rfl <| kca rfl rfl hO <| kmv rfl <| keq rfl rfl (r := true) (beq_self_eq_true _) <| kmv rfl <| gmv rfl rfl rfl <| gca rfl rfl hI rfl rfl <| gmv rfl rfl rfl <| K.rem rfl rfl (by decide) hmod (.taken rfl rfl) ?_; refine K.conv rfl hw1 (.taken rfl rfl) ?_; refine K.eql rfl rfl (r := true) (beq_self_eq_true _) (.taken rfl rfl) ?_; refine kpt rfl rfl <| kmv rfl <| gmv rfl rfl rfl <| gca rfl rfl hG rfl rfl <| gmv rfl rfl rfl <| K.quo rfl rfl (by decide) hquo (.taken rfl rfl) ?_; refine K.conv rfl hw2 (.taken rfl rfl) ?_; refine K.eql rfl rfl (r := true) (beq_self_eq_true _) (.taken rfl rfl) ?_; refine kpt rfl rfl <| kas rfl <| RunK.nil <| LWP.ret ?_)
    exact ⟨[_], ⟨rfl, trivial⟩, rfl⟩
  by_cases c4 : gen < 4294967296
  case neg =>
    rw [show ofH id gen = 0 from if_neg (by omega)] at hO
    (refine LWP.seq <| LWP.region (by kernel_rfl) <| kas rfl <| RunK.nil <| LWP.seq <| LWP.seq <| LWP.region (by kernel_rfl) <| kca rfl rfl (hW) <| K.not rfl rfl .plain <| RunK.nil <| LWP.condF rfl ?_; refine LWP.skip ?_; refine LWP.seq <| LWP.region (by kernel_rfl) <| kas rfl <| RunK.nil <| LWP.seq <| LWP.seq <| LWP.region (by kernel_rfl) <| kmv rfl <| K.geq rfl rfl (decide_eq_true (by omega)) .plain <| kmv rfl <| gmv rfl rfl rfl <| K.lss rfl rfl (decide_eq_true (by omega)) (.taken rfl rfl) ?_; refine kpt rfl rfl <| kmv rfl <| gmv rfl rfl rfl <| K.geq rfl rfl (decide_eq_true (by omega)) (.taken rfl rfl) ?_; refine kpt rfl rfl <| kmv rfl <| gmv rfl rfl rfl <| K.lss rfl rfl (decide_eq_false (by omega)) (.taken rfl rfl) ?_; refine kpt rfl rfl <| RunK.nil <| LWP.condF rfl ?_; refine LWP.skip ?_; refine LWP.seq <| LWP.region (by kernel_rfl) <| kmv rfl <| kmv rfl <| kca rfl rfl hO <| kmv rfl <| keq rfl rfl (r := true) (beq_self_eq_true _) <| kmv rfl <| gmv rfl rfl rfl <| gca rfl rfl hI rfl rfl <| gmv rfl rfl rfl <| K.rem rfl rfl (by decide) hmod (.taken rfl rfl) ?_; refine K.conv rfl hw1 (.taken rfl rfl) ?_; refine K.eql rfl rfl (r := true) (beq_self_eq_true _) (.taken rfl rfl) ?_; refine kpt rfl rfl <| kmv rfl <| gmv rfl rfl rfl <| gca rfl rfl hG rfl rfl <| gmv rfl rfl rfl <| K.quo rfl rfl (by decide) hquo (.taken rfl rfl) ?_; refine K.conv rfl hw2 (.taken rfl rfl) ?_; refine K.eql rfl rfl (r := true) (beq_self_eq_true _) (.taken rfl rfl) ?_; refine kpt rfl rfl <| kas rfl <| RunK.nil <| LWP.ret ?_)
    exact ⟨[_], ⟨rfl, trivial⟩, rfl⟩
  obtain ⟨i, rfl⟩ : ∃ i : Nat, id = (i : Int) := ⟨id.toNat, by omega⟩
  obtain ⟨k, rfl⟩ : ∃ k : Nat, gen = (k : Int) := ⟨gen.toNat, by omega⟩
  have hH := rHandle X i k (by omega) (by omega)
  rw [show ofH (i : Nat) (k : Nat) = hdl i k from if_pos (by omega)] at hO
  (refine LWP.seq <| LWP.region (by kernel_rfl) <| kas rfl <| RunK.nil <| LWP.seq <| LWP.seq <| LWP.region (by kernel_rfl) <| kca rfl rfl (hW) <| K.not rfl rfl .plain <| RunK.nil <| LWP.condF rfl ?_; refine LWP.skip ?_; refine LWP.seq <| LWP.region (by kernel_rfl) <| kas rfl <| RunK.nil <| LWP.seq <| LWP.seq <| LWP.region (by kernel_rfl) <| kmv rfl <| K.geq rfl rfl (decide_eq_true (by omega)) .plain <| kmv rfl <| gmv rfl rfl rfl <| K.lss rfl rfl (decide_eq_true (by omega)) (.taken rfl rfl) ?_; refine kpt rfl rfl <| kmv rfl <| gmv rfl rfl rfl <| K.geq rfl rfl (decide_eq_true (by omega)) (.taken rfl rfl) ?_; refine kpt rfl rfl <| kmv rfl <| gmv rfl rfl rfl <| K.lss rfl rfl (decide_eq_true (by omega)) (.taken rfl rfl) ?_; refine kpt rfl rfl <| RunK.nil <| LWP.condT rfl ?_; refine LWP.region (by kernel_rfl) <| kmv rfl <| kmv rfl <| kca rfl rfl hH <| kas rfl <| RunK.nil <| LWP.seq <| LWP.region (by kernel_rfl) <| kmv rfl <| kmv rfl <| kca rfl rfl hO <| kmv rfl <| keq rfl rfl (r := true) (beq_self_eq_true _) <| kmv rfl ?_; refine gmv rfl rfl rfl <| gca rfl rfl hI rfl rfl <| gmv rfl rfl rfl <| K.rem rfl rfl (by decide) hmod (.taken rfl rfl) ?_; refine K.conv rfl hw1 (.taken rfl rfl) ?_; refine K.eql rfl rfl (r := true) (beq_self_eq_true _) (.taken rfl rfl) ?_; refine kpt rfl rfl <| kmv rfl <| gmv rfl rfl rfl <| gca rfl rfl hG rfl rfl <| gmv rfl rfl rfl <| K.quo rfl rfl (by decide) hquo (.taken rfl rfl) ?_; refine K.conv rfl hw2 (.taken rfl rfl) ?_; refine K.eql rfl rfl (r := true) (beq_self_eq_true _) (.taken rfl rfl) ?_; refine kpt rfl rfl <| kas rfl <| RunK.nil <| LWP.ret ?_)
  exact ⟨[_], ⟨rfl, trivial⟩, rfl⟩
end Go.Proofs.Ytkdbkgfdggbhkaa
end
section
namespace Go.Proofs.Ytkdbkgfdggbhkaa
open Go Go.Lg
set_option maxRecDepth 100000
structure TurnsIn (X : Nat → Option Obj) (ad : Option Addr) (l : List Int) : Prop where
  rows : Go.Lg.RowsIn X ad 1 (l.map fun n => [.int .i64 n])
  small : ∀ n ∈ l, -9223372036854775808 ≤ n ∧ n < 9223372036854775808
theorem TurnsIn.at {X : Nat → Option Obj} {ad : Option Addr} {l : List Int} (h : TurnsIn X ad l) {i : Nat} {n : Int} (hn : l[i]? = some n) : ∃ (blk off : Nat) (arr : Array Value) (el : TypeId) (fr : Nat × Nat), ad = some ⟨blk, off, none⟩ ∧ X blk = some (.cells arr el fr) ∧ arr[off + i * 1]? = some (.int .i64 n) := by
  obtain ⟨blk, off, arr, el, fr, h1, h2, h3, h4⟩ := h.rows i [.int .i64 n] (by rw [List.getElem?_map, hn]; rfl)
  refine ⟨blk, off, arr, el, fr, h1, h2, ?_⟩
  have : ((arr.toList.drop (off + i * 1)).take 1)[0]? = some (Value.int .i64 n) := by rw [h4]; rfl
  rw [List.getElem?_take, if_pos (by decide), List.getElem?_drop, Nat.add_zero, Array.getElem?_toList] at this
  exact this
theorem TurnsIn.mono {X Y : Nat → Option Obj} (hXY : ∀ b o, X b = some o → Y b = some o) {ad : Option Addr} {l : List Int} (h : TurnsIn X ad l) : TurnsIn Y ad l := ⟨h.rows.mono hXY, h.small⟩
structure EntsIn (X : Nat → Option Obj) (ad : Option Addr) (l : List Nat) : Prop where
  at_ : ∀ (i : Nat) (h : Nat), l[i]? = some h → ∃ (blk off : Nat) (arr : Array Value) (el : TypeId) (fr : Nat × Nat), ad = some ⟨blk, off, none⟩ ∧ X blk = some (.cells arr el fr) ∧ arr[off + i * 1]? = some (.int .u64 (h : Nat))
theorem EntsIn.nil {X : Nat → Option Obj} : EntsIn X none [] := ⟨fun i h hi => by simp at hi⟩
theorem EntsIn.mono {X Y : Nat → Option Obj} (hXY : ∀ b o, X b = some o → Y b = some o) {ad : Option Addr} {l : List Nat} (h : EntsIn X ad l) : EntsIn Y ad l := ⟨fun i v hv => by
  obtain ⟨blk, off, arr, el, fr, h1, h2, h3⟩ := h.at_ i v hv
  exact ⟨blk, off, arr, el, fr, h1, hXY _ _ h2, h3⟩⟩
theorem ents_block {Y : Nat → Option Obj} {blk : Nat} {arr : Array Value} {el : TypeId} {fr : Nat × Nat} {l : List Nat} (hY : Y blk = some (.cells arr el fr)) (h : ∃ sp, arr.toList = u64V l ++ sp) : EntsIn Y (some ⟨blk, 0, none⟩) l := ⟨fun i v hv => by
  obtain ⟨sp, h⟩ := h
  have hi := (List.getElem?_eq_some_iff.1 hv).1
  refine ⟨blk, 0, arr, el, fr, rfl, hY, ?_⟩
  rw [← Array.getElem?_toList, h, Nat.zero_add, Nat.mul_one, List.getElem?_append_left (by unfold u64V; rw [List.length_map]; exact hi)]
  unfold u64V
  rw [List.getElem?_map, hv]; rfl⟩
theorem live_mem : ∀ {l : List Ei} {k h : Nat}, h ∈ liveFrom k l ↔ ∃ (i gen : Nat), l[i]? = some (gen, 1) ∧ h = hdl (k + i + 1) gen
  | [], k, h => by simp [liveFrom]
  | (gen, st) :: t, k, h => by
    rw [liveFrom, List.mem_append, live_mem (l := t)]
    constructor
    · rintro (h1 | ⟨i, gen', h1, h2⟩)
      · by_cases c : livE (gen, st) = true
        · rw [if_pos c] at h1
          have : st = 1 := beq_iff_eq.1 c
          subst this
          exact ⟨0, gen, rfl, List.mem_singleton.1 h1⟩
        · rw [if_neg c] at h1; cases h1
      · exact ⟨i + 1, gen', h1, by rw [h2, show k + 1 + i + 1 = k + (i + 1) + 1 by omega]⟩
    · rintro ⟨i, gen', h1, h2⟩
      cases i with
      | zero =>
        simp only [List.getElem?_cons_zero, Option.some.injEq, Prod.mk.injEq] at h1
        obtain ⟨rfl, rfl⟩ := h1
        exact .inl (by rw [if_pos (show livE (gen, 1) = true from rfl)]; exact List.mem_singleton.2 h2)
      | succ i =>
        simp only [List.getElem?_cons_succ] at h1
        exact .inr ⟨i, gen', h1, by rw [h2, show k + 1 + i + 1 = k + (i + 1) + 1 by omega]⟩
theorem live_alive {l : List Ei} (hl : l.length ≤ 256) {h : Nat} (hm : h ∈ liveL l) : ∃ (i gen : Nat), l[i]? = some (gen, 1) ∧ h = hdl (i + 1) gen ∧ h % 4294967296 = i + 1 ∧ aliveB l h = true := by
  obtain ⟨i, gen, h1, h2⟩ := live_mem.1 hm
  rw [Nat.zero_add] at h2
  have hi := (List.getElem?_eq_some_iff.1 h1).1
  subst h2
  refine ⟨i, gen, h1, rfl, hdl_id (by omega), ?_⟩
  rw [aliveB_hdl (by omega)]
  unfold aliveP
  rw [who_suc, h1]
  simp [livE]
theorem live_rise : ∀ {l : List Ei} {k : Nat}, k + l.length < 4294967296 → (liveFrom k l).Pairwise (fun a b => a % 4294967296 < b % 4294967296) ∧ ∀ h ∈ liveFrom k l, k < h % 4294967296
  | [], k, _ => by simp [liveFrom]
  | (gen, st) :: t, k, hb => by
    rw [List.length_cons] at hb
    obtain ⟨h1, h2⟩ := live_rise (l := t) (k := k + 1) (by omega)
    rw [liveFrom]
    have e := hdl_id (i := k + 1) (gen := gen) (by omega)
    by_cases c : livE (gen, st) = true
    · rw [if_pos c]
      refine ⟨List.pairwise_cons.2 ⟨fun b hb2 => ?_, h1⟩, fun h hh => ?_⟩
      · have := h2 b hb2
        rw [show (hdl (k + 1) (gen, st).1) % 4294967296 = k + 1 from e]
        exact this
      · rcases List.mem_cons.1 hh with rfl | hh
        · rw [show (hdl (k + 1) (gen, st).1) % 4294967296 = k + 1 from e]; omega
        · have := h2 h hh; omega
    · rw [if_neg c, List.nil_append]
      exact ⟨h1, fun h hh => by have := h2 h hh; omega⟩
theorem live_next {l : List Ei} (hl : l.length ≤ 256) {k a b : Nat} (ha : (liveL l)[k]? = some a) (hb : (liveL l)[k + 1]? = some b) : a % 4294967296 < b % 4294967296 := by
  have h := (live_rise (l := l) (k := 0) (by omega)).1
  obtain ⟨h1, e1⟩ := List.getElem?_eq_some_iff.1 ha
  obtain ⟨h2, e2⟩ := List.getElem?_eq_some_iff.1 hb
  have := List.pairwise_iff_getElem.1 h k (k + 1) h1 h2 (by omega)
  rw [← e1, ← e2]
  exact this
def gvV (l : List Ei) : List Value := .int .i64 0 :: (l.map (fun x => Value.int .i64 (givE x : Nat)) ++ List.replicate (9 - l.length) (.int .i64 0))
theorem gv_len {l : List Ei} (h : l.length ≤ 9) : ((gvV l).map CV.val).length = 10 := by unfold gvV; rw [List.length_map, List.length_cons, List.length_append, List.length_map, List.length_replicate]; omega
theorem gv_at {l : List Ei} {i : Nat} {x : Ei} (hx : l[i]? = some x) : ((gvV l).map CV.val)[0 + (i + 1) * 1]? = some (.val (.int .i64 (givE x : Nat))) := by
  have hi := (List.getElem?_eq_some_iff.1 hx).1
  unfold gvV
  rw [show 0 + (i + 1) * 1 = i + 1 by omega, List.getElem?_map, List.getElem?_cons_succ, List.getElem?_append_left (by rw [List.length_map]; exact hi), List.getElem?_map, hx]; rfl
theorem gv_set {l : List Ei} {i : Nat} {x : Ei} (hx : l[i]? = some x) (y : Ei) : ((gvV l).map CV.val).set (0 + (i + 1) * 1) (.val (.int .i64 (givE y : Nat))) = (gvV (l.set i y)).map CV.val := by
  have hi := (List.getElem?_eq_some_iff.1 hx).1
  rw [show 0 + (i + 1) * 1 = i + 1 by omega, ← List.map_set]
  unfold gvV
  rw [List.set_cons_succ, List.set_append_left _ _ (by rw [List.length_map]; exact hi), List.length_set, List.map_set]
theorem gv_new {n : Nat} (h : n ≤ 9) : gvV (newE n) = List.replicate 10 (.int .i64 0) := by
  unfold gvV newE
  rw [List.map_replicate, List.length_replicate, show givE (1, 0) = 0 from rfl, show ((0 : Nat) : Int) = 0 from rfl, List.replicate_append_replicate, show n + (9 - n) = 9 by omega]
  rfl
theorem gv_kill {g : Nat} {l : List Ei} {i gen : Nat} (hx : l[i]? = some (gen, 1)) (hg : 1 ≤ gen) : gvV (l.set i (killE g (gen, 1))) = gvV l := by
  have hi := (List.getElem?_eq_some_iff.1 hx).1
  have e : givE (killE g (gen, 1)) = givE (gen, 1) := by
    unfold killE
    by_cases c : gen = g
    · rw [if_pos (show (gen, 1).1 = g from c)]; rfl
    · rw [if_neg (show ¬ (gen, 1).1 = g from c)]; show gen + 1 - 1 + 0 = gen - 1 + 1; omega
  unfold gvV
  rw [List.length_set, List.map_set, e]
  congr 2
  have : (l.map fun x => Value.int .i64 (givE x : Nat))[i]? = some (.int .i64 (givE (gen, 1) : Nat)) := by rw [List.getElem?_map, hx]; rfl
  obtain ⟨h1, h2⟩ := List.getElem?_eq_some_iff.1 this
  rw [← h2, List.set_getElem_self]
def retE (l : List Ei) : Nat := l.countP fun x => x.2 == 2
theorem ret_snoc {l : List Ei} {j : Nat} {x : Ei} (hx : l[j]? = some x) : retE (l.take (j + 1)) = retE (l.take j) + if x.2 = 2 then 1 else 0 := by
  unfold retE
  rw [tk_snoc hx, List.countP_append, List.countP_cons, List.countP_nil, Nat.zero_add]
  by_cases c : x.2 = 2
  · rw [if_pos c, if_pos (beq_iff_eq.2 c)]
  · rw [if_neg c, if_neg (fun h => c (beq_iff_eq.1 h))]
theorem ret_le (l : List Ei) (j : Nat) : retE (l.take j) ≤ j := Nat.le_trans List.countP_le_length (by rw [List.length_take]; omega)
theorem all_counts : ∀ {l : List Ei}, (∀ x ∈ l, x.2 ≤ 2) → cntE l + freE l + retE l = l.length
  | [], _ => rfl
  | x :: t, h => by
    have := all_counts (l := t) fun y hy => h y (List.mem_cons_of_mem _ hy)
    have hx := h x List.mem_cons_self
    unfold cntE freE retE at *
    rw [List.countP_cons, List.countP_cons, List.countP_cons, List.length_cons]
    obtain ⟨gen, st⟩ := x
    rcases (show st = 0 ∨ st = 1 ∨ st = 2 by have hx : st ≤ 2 := hx; omega) with rfl | rfl | rfl
    · rw [if_neg (show ¬ livE (gen, 0) = true from fun h => by cases h), if_pos (show freeE (gen, 0) = true from rfl), if_neg (show ¬ ((gen, 0) : Ei).2 == 2 from fun h => by cases h)]; omega
    · rw [if_pos (show livE (gen, 1) = true from rfl), if_neg (show ¬ freeE (gen, 1) = true from fun h => by cases h), if_neg (show ¬ ((gen, 1) : Ei).2 == 2 from fun h => by cases h)]; omega
    · rw [if_neg (show ¬ livE (gen, 2) = true from fun h => by cases h), if_neg (show ¬ freeE (gen, 2) = true from fun h => by cases h), if_pos (show (((gen, 2) : Ei).2 == 2) = true from rfl)]; omega
end Go.Proofs.Ytkdbkgfdggbhkaa
end
