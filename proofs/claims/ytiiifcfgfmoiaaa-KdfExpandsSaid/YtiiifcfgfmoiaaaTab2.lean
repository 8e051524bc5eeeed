/-
  The landed sha: the constants: the primes.
-/
import Derived.Test.YtiiifcfgfmoiaaaTab1
import Derived.Test.YtiiifcfgfmoiaaaRSum
import Derived.Scope
namespace Go.Proofs.Ytiiifcfgfmoiaaa
open Go.RowKit

namespace Tab
/-- The primes among the first k numbers from 2 on. -/
def prs : Nat → List Nat
  | 0 => []
  | k + 1 => if (prs k).any (fun p => (k + 2) % p == 0) then prs k else prs k ++ [k + 2]
end Tab
theorem prs_step (k : Nat) : (Tab.prs k).length ≤ (Tab.prs (k + 1)).length := by
  rw [Tab.prs]
  split <;> simp
theorem prs_mono (k j : Nat) : (Tab.prs k).length ≤ (Tab.prs (k + j)).length := by
  induction j with
  | zero => exact Nat.le_refl _
  | succ j ih => exact Nat.le_trans ih (prs_step (k + j))
theorem prs_309 : (Tab.prs 309).length = 63 := by decide +kernel
theorem prs_310 : (Tab.prs 310).length = 64 := by decide +kernel
theorem prs_less (k : Nat) (h : k < 310) : (Tab.prs k).length < 64 := by
  have := prs_mono k (309 - k)
  rw [show k + (309 - k) = 309 by omega, prs_309] at this
  omega
theorem prs_mem (k : Nat) : ∀ p ∈ Tab.prs k, 2 ≤ p ∧ p ≤ k + 1 := by
  induction k with
  | zero => simp [Tab.prs]
  | succ k ih =>
    intro p hp
    rw [Tab.prs] at hp
    split at hp
    · have := ih p hp; omega
    · simp only [List.mem_append, List.mem_singleton] at hp
      rcases hp with hp | rfl
      · have := ih p hp; omega
      · omega
/-- Words of 64 bits as cells. -/
def cellsU (l : List Nat) : List Value := l.map fun (n : Nat) => Value.int .u64 (n : Int)
theorem cellsU_length (l : List Nat) : (cellsU l).length = l.length := by simp [cellsU]
theorem cellsU_get (l : List Nat) (i : Nat) (h : i < l.length) : (cellsU l)[i]? = some (.int .u64 ((l.getD i 0 : Nat) : Int)) := by simp [cellsU, h]
theorem cellsU_one (l : List Nat) : ∀ u ∈ cellsU l, u.oneCell' = true := by simp [cellsU, Value.oneCell']
theorem u64inf : (Try.prog.info? 70).map (fun i => (i.zero, i.size, i.bytes)) = some (some (.int .u64 0), 1, 8) := by kernel_rfl

/-- Left by one of two ways. -/
def OutY (n1 : Nat) (R1 : Act → World → Prop) (n2 : Nat) (R2 : Act → World → Prop) : Exit → Act → World → Prop
  | .exit k, a, w => k = n1 ∧ R1 a w ∨ k = n2 ∧ R2 a w
  | _, _, _ => False
theorem OutY.use {P : Program} {c : Code} {n1 n2 : Nat} {R1 R2 : Act → World → Prop} {a : Act} {w : World} {Q : Exit → Act → World → Prop} (h : c.wp P (OutY n1 R1 n2 R2) a w) (h1 : ∀ a' w', R1 a' w' → Q (.exit n1) a' w') (h2 : ∀ a' w', R2 a' w' → Q (.exit n2) a' w') : c.wp P Q a w := by
  refine wp_mono h fun e a w' q => ?_
  cases e with
  | exit k =>
    rcases q with ⟨rfl, q⟩ | ⟨rfl, q⟩
    · exact h1 _ _ q
    · exact h2 _ _ q
  | _ => exact False.elim q

noncomputable def hpr1 : Code := loopOf Try.f31 1

set_option maxRecDepth 100000 in
set_option maxHeartbeats 4000000 in
theorem pl1 (R1 R2 : Act → World → Prop) (a : Act) (w : World) (v : Value) (ps : List Nat) (n : Nat) (hn : n ≤ 1000) (hps : Hid (∀ p ∈ ps, 2 ≤ p ∧ p ≤ 1000)) (hpl : ps.length ≤ 100)
    (b o c : Nat) (hv : 0 < ps.length → v = .slice (some ⟨b, o, none⟩) ps.length c) (hc : Hid (∀ i, i < ps.length → w.cell? ⟨b, o + i, none⟩ = some (.int .u64 ((ps.getD i 0 : Nat) : Int)))) (hcl : Hid (ps.length ≤ c ∧ c ≤ 9223372036854775807))
    (hF : Fr 29 [(0, .int .i64 64), (3, v), (4, .int .u64 n), (13, v), (14, .int .i64 ps.length), (15, .int .i64 0)] a)
    (hQ1 : ∀ a', ps.any (fun p => n % p == 0) = true → Fr 29 [(0, .int .i64 64), (3, v), (4, .int .u64 n)] a' → R1 a' w)
    (hQ2 : ∀ a', ps.any (fun p => n % p == 0) = false → Fr 29 [(0, .int .i64 64), (3, v), (4, .int .u64 n)] a' → R2 a' w) :
    Code.wp Try.prog (.loop hpr1) (OutY 1 R1 2 R2) a w := by
  refine wp_loop_ghost_k (fun m a wr => wr = w ∧ ∃ j, m + j = ps.length ∧ (∀ i, i < j → (n % ps.getD i 0 == 0) = false) ∧ Fr 29 [(0, .int .i64 64), (3, v), (4, .int .u64 n), (13, v), (14, .int .i64 ps.length), (15, .int .i64 j)] a)
    ps.length ⟨rfl, 0, rfl, fun i hi => absurd hi (by omega), hF⟩ ?_
  clear hF
  rintro m a wr ⟨rfl, j, hmj, hno, hFr⟩ J K hJ hK1
  have HJ := Lib.hid hJ
  have HMJ := Lib.hid hmj
  have HNO := Lib.hid hno
  obtain ⟨f, ⟨f0, f3, f4, f13, f14, f15, -⟩, rfl⟩ := hFr.open29
  simp only [f0, f3, f4, f13, f14, f15]
  clear f0 f3 f4 f13 f14 f15 hFr hJ hno
  conv => arg 2; whnf
  by_cases hlt : j < ps.length
  · obtain rfl := hv (by omega)
    have hcj := hc.out j hlt
    have hpj := hps.out (ps.getD j 0) (by rw [List.getD_eq_getElem?_getD, List.getElem?_eq_getElem hlt]; exact List.getElem_mem _)
    have HPJ := Lib.hid (show ps.getD j 0 ∈ ps from by rw [List.getD_eq_getElem?_getD, List.getElem?_eq_getElem hlt]; exact List.getElem_mem _)
    obtain ⟨p, hp⟩ : ∃ p, p = ps.getD j 0 := ⟨_, rfl⟩
    rw [← hp] at hcj hpj HPJ
    have HP := Lib.hid hp
    obtain ⟨hp2, hp3⟩ := hpj
    obtain ⟨hcl1, hcl2⟩ := hcl.out
    have hnz : ((p : Int) == 0) = false := by simp; omega
    clear hp hmj hv
    by_cases hd : n % p = 0
    · have hdI : (((n : Int) % p) == 0) = true := by
        have : (n : Int) % p = ((n % p : Nat) : Int) := rfl
        rw [this, hd]; rfl
      have HQ1 := Lib.hid hQ1
      have HD := Lib.hid hd
      clear hQ1 hQ2 hd
      go_wp2_with fail
      refine .inl ⟨rfl, HQ1.out _ ?_ ⟨rfl, rfl, by repeat (first | exact trivial | refine ⟨rfl, ?_⟩)⟩⟩
      rw [List.any_eq_true]
      exact ⟨p, HPJ.out, by rw [HD.out]; rfl⟩
    · have hdI : (((n : Int) % p) == 0) = false := by
        have : (n : Int) % p = ((n % p : Nat) : Int) := rfl
        rw [this]; simpa using (by omega : ¬ ((n % p : Nat) : Int) = 0)
      have HD := Lib.hid hd
      clear hQ1 hQ2 hd
      go_wp2_with fail
      refine Handed.intro (m - 1) (by have := HMJ.out; omega) (HJ.out _ _ _ ⟨rfl, j + 1, by have := HMJ.out; omega, fun i hi => ?_, ⟨rfl, rfl, by repeat (first | exact trivial | refine ⟨rfl, ?_⟩)⟩⟩)
      by_cases hij : i < j
      · exact HNO.out i hij
      · obtain rfl : i = j := by omega
        rw [← HP.out]
        simpa using HD.out
  · obtain rfl : j = ps.length := by omega
    have HQ2 := Lib.hid hQ2
    clear hQ1 hQ2
    go_wp2_with fail
    refine .inr ⟨rfl, HQ2.out _ ?_ ⟨rfl, rfl, by repeat (first | exact trivial | refine ⟨rfl, ?_⟩)⟩⟩
    rw [List.any_eq_false]
    intro p hp
    obtain ⟨i, hi, rfl⟩ := List.getElem_of_mem hp
    have := HNO.out i hi
    rw [List.getD_eq_getElem?_getD, List.getElem?_eq_getElem hi] at this
    simpa using this

noncomputable def hpr0 : Code := loopOf Try.f31 0

set_option maxRecDepth 100000 in
set_option maxHeartbeats 4000000 in
theorem pl0 (R : Act → World → Prop) (a : Act) (w : World)
    (hF : Fr 29 [(0, .int .i64 64), (3, .slice none 0 0), (4, .int .u64 2)] a)
    (hQ : ∀ a' w' v, Fr 29 [(3, v)] a' → w'.ownsRow w.heap.size 70 1 v 64 (cellsU (Tab.prs 310)) → Keep [] w w' → R a' w') :
    Code.wp Try.prog (.loop hpr0) (OutX 0 R) a w := by
  refine wp_loop_ghost_k (fun m a wr => ∃ k v, m + k = 310 ∧ Fr 29 [(0, .int .i64 64), (3, v), (4, .int .u64 ((k + 2 : Nat) : Int))] a ∧ wr.ownsRow w.heap.size 70 1 v (Tab.prs k).length (cellsU (Tab.prs k)) ∧ Keep [] w wr)
    310 ⟨0, .slice none 0 0, rfl, hF, World.ownsRow_nil _ _ _ _, Keep.refl _ _⟩ ?_
  clear hF
  intro m a wr ⟨k, v, hmk, hFr, hO, hk⟩ J K hJ hK1
  have HJ := Lib.hid hJ
  have HMK := Lib.hid hmk
  have HO := Lib.hid hO
  have HK := Lib.hid hk
  obtain ⟨vA, vc, rfl⟩ := own_slice hO
  obtain ⟨f, ⟨f0, f3, f4, -⟩, rfl⟩ := hFr.open29
  simp only [f0, f3, f4]
  clear f0 f3 f4 hFr hJ hk
  conv => arg 2; whnf
  by_cases hlt : k < 310
  · have hps := prs_mem k
    have hpl := prs_less k hlt
    have HST := Lib.hid (show Tab.prs (k + 1) = if (Tab.prs k).any (fun p => (k + 2) % p == 0) then Tab.prs k else Tab.prs k ++ [k + 2] from rfl)
    generalize Tab.prs k = ps at *
    have hHPS := Lib.hid (show ∀ p ∈ ps, 2 ≤ p ∧ p ≤ 1000 from fun p hp => by have := hps p hp; omega)
    have hcell : ∃ b o, (0 < ps.length → Value.slice vA ps.length vc = .slice (some ⟨b, o, none⟩) ps.length vc) ∧ (∀ i, i < ps.length → wr.cell? ⟨b, o + i, none⟩ = some (.int .u64 ((ps.getD i 0 : Nat) : Int))) ∧ (ps.length ≤ vc ∧ vc ≤ 9223372036854775807) := by
      have hrd := Rd.of_own hO
      rcases hO.2 with ⟨hv, hn⟩ | ⟨g, cap, cur, hv, _, hh, hcap, hm, _⟩
      · have hl : ps.length = 0 := hn
        simp only [Value.slice.injEq] at hv
        obtain ⟨-, -, rfl⟩ := hv
        exact ⟨0, 0, fun h => by omega, fun i hi => by omega, by omega, by omega⟩
      · simp only [Value.slice.injEq] at hv
        obtain ⟨rfl, -, rfl⟩ := hv
        refine ⟨g, 0, fun _ => rfl, fun i hi => ?_, by omega, by simpa [maxLen] using hm⟩
        obtain ⟨b, off, e, hc⟩ := hrd (by rw [cellsU_length]; omega)
        simp only [Option.some.injEq, Addr.mk.injEq, and_true] at e
        obtain ⟨rfl, rfl⟩ := e
        exact hc i _ (cellsU_get ps i hi)
    have E4 := Lib.hid (show Value.int .u64 ((k : Int) + 2 + 1) = .int .u64 ((k + 1 + 2 : Nat) : Int) by congr 1)
    obtain ⟨b, o, hv, hc, hcl⟩ := hcell
    have HC := Lib.hid hc
    have HCL := Lib.hid hcl
    obtain ⟨hcl1, hcl2⟩ := hcl
    clear hQ hps hc hO hmk
    go_upto_block 2 with fail
    go_wp2_with fail
    refine OutY.use (pl1 (fun a' w' => ps.any (fun p => (k + 2) % p == 0) = true ∧ w' = wr ∧ Fr 29 [(0, .int .i64 64), (3, .slice vA ps.length vc), (4, .int .u64 ((k + 2 : Nat) : Int))] a')
      (fun a' w' => ps.any (fun p => (k + 2) % p == 0) = false ∧ w' = wr ∧ Fr 29 [(0, .int .i64 64), (3, .slice vA ps.length vc), (4, .int .u64 ((k + 2 : Nat) : Int))] a') _ wr _ ps (k + 2) (by omega) hHPS (by omega) b o vc hv HC HCL
      ⟨rfl, rfl, by repeat (first | exact trivial | refine ⟨rfl, ?_⟩)⟩ (fun a' h1 h2 => ⟨h1, rfl, h2⟩) (fun a' h1 h2 => ⟨h1, rfl, h2⟩)) ?_ ?_
    · rintro a' w' ⟨hany, rfl, hF2⟩
      rw [if_pos hany] at HST
      obtain ⟨f', ⟨f0, f3, f4, -⟩, rfl⟩ := hF2.open29
      simp only [f0, f3, f4]
      clear f0 f3 f4 hF2 hany
      go_wp2_with fail
      exact Handed.intro (m - 1) (by have := HMK.out; omega) (HJ.out _ _ _ ⟨k + 1, .slice vA ps.length vc, by have := HMK.out; omega, ⟨rfl, rfl, rfl, rfl, E4.out, trivial⟩, by rw [HST.out]; exact HO.out, HK.out⟩)
    · rintro a' w' ⟨hany, rfl, hF2⟩
      rw [if_neg (by rw [hany]; simp)] at HST
      obtain ⟨f', ⟨f0, f3, f4, -⟩, rfl⟩ := hF2.open29
      simp only [f0, f3, f4]
      clear f0 f3 f4 hF2 hany
      go_upto_region 4 with (at_builtin; refine wl_append _ rfl _ _ _ rfl w.heap.size 70 (.int .u64 0) 1 8 Try.underlying81 u64inf rfl (by decide) (.slice vA ps.length vc) _ _ rfl (HO.out.alloc _) (some ⟨w'.heap.size, 0, none⟩) 1 1 [.int .u64 ((k + 2 : Nat) : Int)] rfl rfl (Rd.one _ _ _) (by simp [Value.oneCell']) ?c3 ?c4 ?c5 ?_; rotate_right; intro v3 w3 ho3 hk3 hat3)
      case c3 => simp only [maxLen]; omega
      case c4 => omega
      case c5 => have := HK.out.size; simp; omega
      have HK3 := Lib.hid (keep_own (HO.out.alloc _) (Nat.le_refl _) (HK.out.alloc _) hk3)
      have ho3' : w3.ownsRow w.heap.size 70 1 v3 (ps ++ [k + 2]).length (cellsU (ps ++ [k + 2])) := by
        rw [List.length_append]
        simpa [cellsU] using ho3
      have HO3 := Lib.hid ho3'
      clear ho3 hk3 hat3 ho3'
      go_wp2_with fail
      exact Handed.intro (m - 1) (by have := HMK.out; omega) (HJ.out _ _ _ ⟨k + 1, v3, by have := HMK.out; omega, ⟨rfl, rfl, rfl, rfl, E4.out, trivial⟩, by rw [HST.out]; exact HO3.out, HK3.out⟩)
  · obtain rfl : k = 310 := by omega
    have HQ := Lib.hid hQ
    rw [prs_310] at HO ⊢
    clear hQ hO
    go_wp2_with fail
    exact ⟨rfl, HQ.out _ _ _ ⟨rfl, rfl, by repeat (first | exact trivial | refine ⟨rfl, ?_⟩)⟩ HO.out HK.out⟩

set_option maxRecDepth 100000 in
theorem primes_any (w : World) :
    Calls Try.prog 31 #[.int .i64 64] w fun e w' => ∃ v, e = .returned v ∧ w'.ownsRow w.heap.size 70 1 v 64 (cellsU (Tab.prs 310)) ∧ Keep [] w w' := by
  go_enter Try.func31, Try.ntmps31
  go_wp2_with fail
  refine wp_scope_straight ?_
  go_wp2_with fail
  refine wp_label ?_
  simp only [Exit.then]
  go_wp2_with fail
  refine OutX.use (pl0 (fun a' w' => ∃ v, Fr 29 [(3, v)] a' ∧ w'.ownsRow w.heap.size 70 1 v 64 (cellsU (Tab.prs 310)) ∧ Keep [] w w') _ w
    ⟨rfl, rfl, by repeat (first | exact trivial | refine ⟨rfl, ?_⟩)⟩ (fun a' w' v h1 h2 h3 => ⟨v, h1, h2, h3⟩)) ?_
  rintro a' w2 ⟨v, hF2, hO2, hk2⟩
  have HO2 := Lib.hid hO2
  have HK2 := Lib.hid hk2
  obtain ⟨f', ⟨f3, -⟩, rfl⟩ := hF2.open29
  simp only [f3]
  clear f3 hF2 hO2 hk2
  go_wp2_with fail
  simp only [Exit.noGoto]
  go_ret
  exact ⟨v, rfl, HO2.out, HK2.out⟩
end Go.Proofs.Ytiiifcfgfmoiaaa
