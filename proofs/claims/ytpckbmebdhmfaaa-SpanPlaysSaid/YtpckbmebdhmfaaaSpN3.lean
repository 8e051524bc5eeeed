/-
  The landed span: New, Len, List, Copy, Count, Last.
-/
import Derived.Test.YtpckbmebdhmfaaaSpN2
namespace Go.Proofs.Ytpckbmebdhmfaaa
open Go.RowKit

theorem SpS.s2 {w : World} {S : List Nat} {s m : Nat} {l : List (Nat × Nat)} (h : SpS w S s m l) : ∃ lim v, Blk w s 58 #[.int .i64 lim, v] ∧ S2 w v l ∧ (Lit.int .i64 lim).wf = true ∧ m = (max lim 1).toNat := by
  obtain ⟨lim, v, h1, h2, h3, h4, -, -, h7, -⟩ := h
  exact ⟨lim, v, h1, S2.of_own h4 h7, h2, h3⟩
theorem SpS.ok {w : World} {S : List Nat} {s m : Nat} {l : List (Nat × Nat)} (h : SpS w S s m l) : Span.Nrm l ∧ P64 l ∧ l.length ≤ m := by
  obtain ⟨lim, v, h1, h2, h3, h4, -, h6, h7, h8⟩ := h
  exact ⟨h6, h7, h8⟩
theorem SpS.keep {w w' : World} {S T : List Nat} {s m : Nat} {l : List (Nat × Nat)} (h : SpS w S s m l) (hk : Keep T w w') (hT : ∀ x ∈ S, x ∉ T) : SpS w' S s m l := by
  obtain ⟨lim, v, h1, h2, h3, h4, rfl, h6, h7, h8⟩ := h
  exact ⟨lim, v, h1.keep hk (hT s (by simp)), h2, h3, own_keep h4 hk (fun g hg => hT g (by simp [hg])), rfl, h6, h7, h8⟩
theorem SpS.lt {w : World} {S : List Nat} {s m : Nat} {l : List (Nat × Nat)} (h : SpS w S s m l) : ∀ x ∈ S, x < w.heap.size := by
  obtain ⟨lim, v, h1, h2, h3, h4, rfl, h6, h7, h8⟩ := h
  intro x hx
  rcases List.mem_cons.1 hx with rfl | hx
  · exact h1.lt
  · exact (own_lt h4 x (by simpa using hx)).1

section
variable (w : World)
set_option maxRecDepth 100000
set_option maxHeartbeats 2000000
theorem new_any (k : Int) (hk : (Lit.int .i64 k).wf = true) : Calls Try.prog 8 #[.int .i64 k] w fun e w' => ∃ s S, e = .returned (.pointer (some ⟨s, 0, none⟩)) ∧ SpS w' S s (max k 1).toNat [] ∧ (∀ x ∈ S, w.heap.size ≤ x) ∧ Keep [] w w' := by
  go_enter Try.func8, Try.ntmps8
  go_wp2
  go_ret
  refine ⟨_, [w.heap.size], rfl, ⟨k, .slice none 0 0, Blk.new _ _ _, hk, rfl, ⟨rfl, .inl ⟨rfl, rfl⟩⟩, rfl, trivial, P64.nil, Nat.zero_le _⟩, fun x hx => by rw [List.mem_singleton.1 hx]; exact Nat.le_refl _, (Keep.refl _ _).alloc _⟩
theorem len_any {S : List Nat} {s m : Nat} {l : List (Nat × Nat)} (h : SpS w S s m l) (hn : l.length ≤ 1000000) : Calls Try.prog 19 #[.pointer (some ⟨s, 0, none⟩)] w fun e w' => e = .returned (.int .i64 (l.length : Nat)) ∧ Keep [] w w' := by
  obtain ⟨lim, v, h1, ⟨A, c, rfl, h2, -⟩, -⟩ := h.s2
  have c1 : w.cell? ⟨s, 1, none⟩ = some (.slice A l.length c) := h1.cell 1
  clear h h1
  go_enter Try.func19, Try.ntmps19
  go_wp2
  go_ret
  exact ⟨rfl, Keep.refl _ _⟩
theorem clone_any (v : Value) (l : List (Nat × Nat)) (hv : S2 w v l) (hn : l.length ≤ 1000000) :
    Calls Try.prog 27 #[v] w fun e w' => ∃ v', e = .returned v' ∧ w'.ownsRow w.heap.size 26 2 v' l.length (pcs l) ∧ Keep [] w w' := by
  have HV := Lib.hid hv
  obtain ⟨A, c, rfl, h1, h2, h3, h4⟩ := hv
  have q := fun (w : World) (a : Option Addr) (n c n' c' : Nat) => Lib.run_eql_slice_nil w _ _ a n c n' c' setN
  cases A with
  | none =>
    have hl : l = [] := by
      rcases Nat.eq_zero_or_pos l.length with h0 | h0
      · exact List.eq_nil_of_length_eq_zero h0
      · obtain ⟨_, _, e, _⟩ := h3 (by rw [pcs_length]; omega)
        cases e
    clear HV
    subst hl
    go_enter Try.func27, Try.ntmps27
    go_wp2
    go_ret
    exact ⟨_, rfl, ⟨rfl, .inl ⟨rfl, rfl⟩⟩, Keep.refl _ _⟩
  | some a =>
    obtain ⟨n, hnl⟩ : ∃ n, n = l.length := ⟨_, rfl⟩
    have H3 := Lib.hid (show Rd (w.alloc (.cells #[] 26)) (some a) (pcs l) from h3.keep0 ((Keep.refl _ _).alloc _))
    have HN := Lib.hid hnl
    rw [← hnl] at h1 hn ⊢
    clear HV h3 hnl
    go_enter Try.func27, Try.ntmps27
    go_wp2_with (at_builtin; refine wl_append _ rfl _ _ 42 rfl w.heap.size 26 _ 2 16 setN rngI rfl (by decide) _ 0 [] rfl (World.ownsRow_made w #[] 0 (Nat.le_refl _) (Nat.zero_le _) (by simp)) _ n c (pcs l) rfl (by rw [pcs_length, HN.out]) H3.out (pcs_one_cell l) (by simp only [maxLen]; omega) (by omega) (by simp) ?_; intro v' w' hw1 hw2 hw3)
    go_wp2_with fail
    go_ret
    refine ⟨v', rfl, ?_, ?_⟩
    · simpa using hw1
    · exact ((Keep.refl [] w).alloc _).trans' hw2 (fun g hg => .inr (Nat.le_of_eq (List.mem_singleton.1 hg).symm))
theorem list_any {S : List Nat} {s m : Nat} {l : List (Nat × Nat)} (h : SpS w S s m l) (hn : l.length ≤ 1000000) :
    Calls Try.prog 18 #[.pointer (some ⟨s, 0, none⟩)] w fun e w' => ∃ v, e = .returned v ∧ S2 w' v l ∧ (∀ b, v.ownBlock = some b → w.heap.size ≤ b) ∧ Keep [] w w' := by
  obtain ⟨lim, v, h1, hv, -⟩ := h.s2
  have CL := Lib.hid (clone_any w v l hv hn)
  have HP := Lib.hid hv.p64
  obtain ⟨A, c, rfl, h2, -⟩ := hv
  have c1 : w.cell? ⟨s, 1, none⟩ = some (.slice A l.length c) := h1.cell 1
  clear h h1
  go_enter Try.func18, Try.ntmps18
  go_wp2_with (go_at_call 27; with_reducible refine CL.out.mono ?_; rintro e w1 ⟨v', rfl, ho, hk⟩; have HO := Lib.hid ho; have HK := Lib.hid hk; clear ho hk)
  go_ret
  exact ⟨v', rfl, S2.of_own HO.out HP.out, fun b hb => (own_lt HO.out b hb).2, HK.out⟩
theorem copy_any {S : List Nat} {s m : Nat} {l : List (Nat × Nat)} (h : SpS w S s m l) (hn : l.length ≤ 1000000) :
    Calls Try.prog 10 #[.pointer (some ⟨s, 0, none⟩)] w fun e w' => ∃ s' S', e = .returned (.pointer (some ⟨s', 0, none⟩)) ∧ SpS w' S' s' m l ∧ (∀ x ∈ S', w.heap.size ≤ x) ∧ Keep [] w w' := by
  obtain ⟨lim, v, h1, hv, hw, hm⟩ := h.s2
  have CL := fun W (hk : Keep [] w W) => Lib.hid (clone_any W v l (hv.keep0 hk) hn)
  have HP := Lib.hid h
  obtain ⟨A, c, rfl, h2, -⟩ := hv
  have c0 : w.cell? ⟨s, 0, none⟩ = some (.int .i64 lim) := h1.cell 0
  have c1 : w.cell? ⟨s, 1, none⟩ = some (.slice A l.length c) := h1.cell 1
  have HB := Lib.hid h1
  clear h h1
  go_enter Try.func10, Try.ntmps10
  go_upto_region 3 with fail
  go_region_with (go_at_call 27; with_reducible refine (CL _ (Keep.refl [] w).drew).out.mono ?_; rintro e w1 ⟨v', rfl, ho, hk⟩; have HO := Lib.hid ho; have HK := Lib.hid ((Keep.refl [] w).drew.trans hk); have c0' := (HB.out.keep HK.out (by simp)).cell 0; have c1' := (HB.out.keep HK.out (by simp)).cell 1; obtain ⟨A', c', rfl⟩ := own_slice ho; clear ho hk; simp at c0' c1')
  all_goals go_simp
  all_goals
    go_wp2_with fail
    go_ret
    refine ⟨w1.heap.size, _, rfl, ⟨lim, _, Blk.new _ _ _, hw, hm, own_base (own_keep0 HO.out ((Keep.refl [] w1).alloc _)) (Nat.zero_le _), rfl, HP.out.ok.1, HP.out.ok.2.1, HP.out.ok.2.2⟩, fun x hx => ?_, HK.out.alloc _⟩
    rcases List.mem_cons.1 hx with rfl | hx
    · exact HK.out.size
    · exact (own_lt HO.out x (by simpa using hx)).2
end
end Go.Proofs.Ytpckbmebdhmfaaa
