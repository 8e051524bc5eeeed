/-
  The landed span: Cut. (Written by gencutl.py.)
-/
import Derived.Test.YtpckbmebdhmfaaaSpL3
namespace Go.Proofs.Ytpckbmebdhmfaaa
open Go.RowKit
theorem rest_emp (a b : Nat × Nat) : [a, b].filter (fun x => !emp x) = [a, b].filter fun x => decide (x.1 < x.2) := by
  congr 1
  funext x
  by_cases h : x.2 ≤ x.1
  · rw [show emp x = true from decide_eq_true h, decide_eq_false (by omega)]; rfl
  · rw [show emp x = false from decide_eq_false h, decide_eq_true (by omega)]; rfl
section
variable (w : World)
set_option maxRecDepth 100000
set_option maxHeartbeats 8000000
theorem cut_any {S : List Nat} {s m : Nat} {l : List (Nat × Nat)} (r : Nat × Nat) (h : SpS w S s m l) (hn : l.length ≤ 1000000) (h1 : r.1 < 18446744073709551616) (h2 : r.2 < 18446744073709551616) :
    Calls Try.prog 16 #[.pointer (some ⟨s, 0, none⟩), pv r] w fun e w' => ∃ c S', e = .returned (.int .i64 c) ∧
      (((Span.cut l r).length ≤ m ∧ c = 0 ∧ SpS w' S' s m (Span.cut l r)) ∨ (m < (Span.cut l r).length ∧ c = 7 ∧ SpS w' S' s m l)) ∧ (∀ x ∈ S', x ∈ S ∨ w.heap.size ≤ x) ∧ Keep S w w' := by
  have HS := Lib.hid h
  have EM : Hid (∀ W, Calls Try.prog 28 #[.agg #[.int .u64 (r.1 : Nat), .int .u64 (r.2 : Nat)]] W fun e W' => e = .returned (.bool (decide (r.2 ≤ r.1))) ∧ Keep [] W W') := fun W => empty_any W r h1 h2
  have b1 := u64_lt h1
  have b2 := u64_lt h2
  obtain ⟨lim, v, hB, hv, hlw, hmm⟩ := h.s2
  have hok := h.ok
  have HB := Lib.hid hB
  have HL := Lib.hid hv
  have e1 := enters_of Try.func35 (by kernel_rfl) rfl
  have e2 := enters_of Try.func36 (by kernel_rfl) rfl
  have FI : Hid (∀ W G, Keep [] w W → Blk W G 26 (pc r).toArray → Calls Try.prog 34 #[.pointer (some ⟨s, 0, none⟩), .func (.func 35) #[] #[.pointer (some ⟨G, 0, none⟩)]] W fun e w' => e = .returned (.int .i64 ((Span.fi (fun x => decide (r.1 < x.2)) l : Nat) : Int)) ∧ Keep [] W w') := by
    intro W G hW hG
    refine find_any W (fun x => decide (r.1 < x.2)) (HB.out.keep hW (by simp)) (HL.out.keep0 hW) hn e1 (fun W' x hk hx => ?_) (fun i j a1 a2 a3 => hok.1.rise (fun x => decide (r.1 < x.2)) (fun x y b1 b2 b3 b4 => ?_) i j a1 a2 a3)
    · exact p35_any W' x r G (hG.keep hk (by simp)) (hok.2.1 x hx).1 (hok.2.1 x hx).2 h1 h2
    · simp only [decide_eq_true_eq] at b4 ⊢; omega
  have FJ : Hid (∀ W G, Keep [] w W → Blk W G 26 (pc r).toArray → Calls Try.prog 34 #[.pointer (some ⟨s, 0, none⟩), .func (.func 36) #[] #[.pointer (some ⟨G, 0, none⟩)]] W fun e w' => e = .returned (.int .i64 ((Span.fi (fun x => decide (r.2 ≤ x.1)) l : Nat) : Int)) ∧ Keep [] W w') := by
    intro W G hW hG
    refine find_any W (fun x => decide (r.2 ≤ x.1)) (HB.out.keep hW (by simp)) (HL.out.keep0 hW) hn e2 (fun W' x hk hx => ?_) (fun i j a1 a2 a3 => hok.1.rise (fun x => decide (r.2 ≤ x.1)) (fun x y b1 b2 b3 b4 => ?_) i j a1 a2 a3)
    · exact p36_any W' x r G (hG.keep hk (by simp)) (hok.2.1 x hx).1 (hok.2.1 x hx).2 h1 h2
    · simp only [decide_eq_true_eq] at b4 ⊢; omega
  have hij := fun hr => Span.fi_cut_le hok.1 r hr
  have hjl := Span.fi_le (fun x => decide (r.2 ≤ x.1)) l
  have hil := Span.fi_le (fun x => decide (r.1 < x.2)) l
  have hA := fun hr => Span.cutL_fi hok.1 r hr
  have hnrm := Span.cut_nrm hok.1 r
  obtain ⟨i, hi⟩ : ∃ i, i = Span.fi (fun x => decide (r.1 < x.2)) l := ⟨_, rfl⟩
  obtain ⟨j, hj⟩ : ∃ j, j = Span.fi (fun x => decide (r.2 ≤ x.1)) l := ⟨_, rfl⟩
  rw [← hi] at FI hil hij hA
  rw [← hj] at FJ hjl hij hA
  obtain ⟨R, hR⟩ : ∃ R, R = Span.cut l r := ⟨_, rfl⟩
  rw [← hR] at hnrm ⊢
  have hRs : ¬ (r.1 < r.2) ∨ i = j → R = l := fun hh => by
    rw [hR]
    unfold Span.cut
    by_cases hr : r.1 < r.2
    · rw [if_pos hr, hA hr, if_pos (hh.resolve_left (fun h => h hr))]
    · rw [if_neg hr]
  have hRm : r.1 < r.2 → i ≠ j → R = l.take i ++ Span.rest l r i j ++ l.drop j := fun hr hne => by
    rw [hR]
    unfold Span.cut
    rw [if_pos hr, hA hr, if_neg hne]
  have HKG : ∀ (cc : Int), cc = 0 → R = l → ∀ W, Keep [] w W → ∃ c S', Ending.returned (.int .i64 cc) = .returned (.int .i64 c) ∧ ((R.length ≤ m ∧ c = 0 ∧ SpS W S' s m R) ∨ (m < R.length ∧ c = 7 ∧ SpS W S' s m l)) ∧ (∀ x ∈ S', x ∈ S ∨ w.heap.size ≤ x) ∧ Keep S w W := fun cc hc hRl W hk => by
    rw [hRl]
    exact ⟨cc, S, rfl, .inl ⟨HS.out.ok.2.2, hc, HS.out.keep hk (by simp)⟩, fun x hx => .inl hx, hk.more0⟩
  have HKG2 := Lib.hid HKG
  obtain ⟨n, hnl⟩ : ∃ n, n = l.length := ⟨_, rfl⟩
  have HN := Lib.hid hnl
  obtain ⟨A, c, rfl, hc1, hc2, -, -⟩ := hv
  have HBS : Hid (Blk w s 58 #[.int .i64 lim, .slice A n c]) := by rw [hnl]; exact HB
  rw [← hnl] at hil hjl hn HL
  have HOK := Lib.hid hok
  have HNRM := Lib.hid hnrm
  have HRS := Lib.hid hRs
  have HRM := Lib.hid hRm
  have HIJ := Lib.hid hij
  clear h hB HB hok hij hA hnrm hR hRs hRm hi hj e1 e2 HKG hc1 hc2 hlw hmm hnl
  obtain ⟨ra, rb⟩ := r
  simp only at EM h1 h2 b1 b2 HRM HRS
  have FI2 : Hid (∀ W G, Keep [] w W → Blk W G 26 #[.int .u64 (ra : Nat), .int .u64 (rb : Nat)] → Calls Try.prog 34 #[.pointer (some ⟨s, 0, none⟩), .func (.func 35) #[] #[.pointer (some ⟨G, 0, none⟩)]] W fun e w' => e = .returned (.int .i64 (i : Nat)) ∧ Keep [] W w') := FI
  have FJ2 : Hid (∀ W G, Keep [] w W → Blk W G 26 #[.int .u64 (ra : Nat), .int .u64 (rb : Nat)] → Calls Try.prog 34 #[.pointer (some ⟨s, 0, none⟩), .func (.func 36) #[] #[.pointer (some ⟨G, 0, none⟩)]] W fun e w' => e = .returned (.int .i64 (j : Nat)) ∧ Keep [] W w') := FJ
  clear FI FJ
  show Calls Try.prog 16 #[.pointer (some ⟨s, 0, none⟩), .agg #[.int .u64 (ra : Nat), .int .u64 (rb : Nat)]] w _
  go_enter Try.func16, Try.ntmps16
  go_upto_region 5 with (first
    | (go_at_call 34; with_reducible refine (FI2.out _ w.heap.size ((Keep.refl [] w).alloc _) (Blk.new w 26 #[.int .u64 (ra : Nat), .int .u64 (rb : Nat)])).mono ?_; rintro e w1 ⟨rfl, hk1⟩; have HK1 := Lib.hid (((Keep.refl [] w).alloc _).trans hk1); have HG := Lib.hid ((Blk.new w 26 #[.int .u64 (ra : Nat), .int .u64 (rb : Nat)]).keep hk1 (by simp)); clear hk1)
    | (go_at_call 34; with_reducible refine (FJ2.out _ w.heap.size HK1.out HG.out).mono ?_; rintro e w2 ⟨rfl, hk2⟩; have HK2 := Lib.hid (HK1.out.trans hk2); have HG2 := Lib.hid (HG.out.keep hk2 (by simp)); clear hk2))
  obtain ⟨G0, hG0⟩ : ∃ G0, G0 = w.heap.size := ⟨_, rfl⟩
  have HG3 : Hid (Blk w2 G0 26 #[.int .u64 (ra : Nat), .int .u64 (rb : Nat)]) := by rw [hG0]; exact HG2
  have g0 : w2.cell? ⟨G0, 0, none⟩ = some (.int .u64 (ra : Nat)) := HG3.out.cell 0
  have g1 : w2.cell? ⟨G0, 1, none⟩ = some (.int .u64 (rb : Nat)) := HG3.out.cell 1
  rw [← hG0]
  clear hG0 HG HG2 HK1 FI2 FJ2
  by_cases he : rb ≤ ra
  · rw [decide_eq_true he] at EM
    have HRl := Lib.hid (HRS.out (.inl (by omega)))
    go_wp2_with (go_at_call 28; with_reducible refine (EM.out _).mono ?_; rintro e w3 ⟨rfl, hk3⟩; have HK3 := Lib.hid (HK2.out.trans hk3); clear hk3)
    go_ret
    exact HKG2.out 0 rfl HRl.out _ HK3.out
  · rw [decide_eq_false he] at EM
    by_cases hne : i = j
    · have HRl := Lib.hid (HRS.out (.inr hne))
      subst hne
      go_wp2_with (go_at_call 28; with_reducible refine (EM.out _).mono ?_; rintro e w3 ⟨rfl, hk3⟩; have HK3 := Lib.hid (HK2.out.trans hk3); clear hk3)
      go_ret
      exact HKG2.out 0 rfl HRl.out _ HK3.out
    · have hr : ra < rb := by omega
      have hlt : i < j := by have := HIJ.out hr; omega
      have HRl := Lib.hid (HRM.out hr hne)
      have hz1 : ¬ ((i : Int) = (j : Int)) := by omega
      have hz2 : ((i : Int) == (j : Int)) = false := beq_eq_false_iff_ne.2 hz1
      go_upto_region 7 with (go_at_call 28; with_reducible refine (EM.out _).mono ?_; rintro e w4 ⟨rfl, hk3⟩; have HK4 := Lib.hid (HK2.out.trans hk3); have HG4 := Lib.hid (HG3.out.keep hk3 (by simp)); clear hk3)
      have hnl := HN.out
      have HL4 := Lib.hid (HL.out.keep0 HK4.out)
      obtain ⟨b, off, c', he2, -, -, hblt, hcell⟩ := HL4.out.cells (by omega)
      simp only [Value.slice.injEq] at he2
      obtain ⟨rfl, -, rfl⟩ := he2
      obtain ⟨k, rfl⟩ : ∃ k, j = k + 1 := ⟨j - 1, by omega⟩
      obtain ⟨x1, x2⟩ := hcell i (by omega)
      obtain ⟨z1, z2⟩ := hcell k (by omega)
      have hrest : Span.rest l (ra, rb) i (k + 1) = [((l.getD i (0, 0)).1, ra), (rb, (l.getD k (0, 0)).2)].filter fun x => !emp x := by rw [rest_emp]; rfl
      have hx := HOK.out.2.1.getD i
      have hz := HOK.out.2.1.getD k
      obtain ⟨x, hxx⟩ : ∃ x, x = l.getD i (0, 0) := ⟨_, rfl⟩
      obtain ⟨z, hzz⟩ : ∃ z, z = l.getD k (0, 0) := ⟨_, rfl⟩
      rw [← hxx] at x1 x2 hrest hx
      rw [← hzz] at z1 z2 hrest hz
      obtain ⟨xa, xb⟩ := x
      obtain ⟨za, zb⟩ := z
      simp only at x1 x2 z1 z2 hrest hx hz
      have HREST := Lib.hid hrest
      have bi : (0 : Int) ≤ i ∧ (i : Int) < n ∧ (k : Int) < n ∧ (0 : Int) ≤ k ∧ (i : Int) < (k : Int) + 1 := ⟨by omega, by omega, by omega, by omega, by omega⟩
      have bx := u64_lt hx.1
      have bz := u64_lt hz.2
      have ew : IntKind.i64.wrap (k : Int) = (k : Int) := by rw [IntKind.wrap_i64]; omega
      have LD : ∀ y, Keep [] w4 y → y.cell? ⟨s, 1, none⟩ = some (.slice (some ⟨b, off, none⟩) n c) ∧ y.cell? ⟨b, off + i * 2, none⟩ = some (.int .u64 (xa : Nat)) ∧ y.cell? ⟨b, off + k * 2 + 1, none⟩ = some (.int .u64 (zb : Nat)) ∧ y.cell? ⟨G0, 0, none⟩ = some (.int .u64 (ra : Nat)) ∧ y.cell? ⟨G0, 1, none⟩ = some (.int .u64 (rb : Nat)) := fun y hk =>
        ⟨((HBS.out.keep HK4.out (by simp)).keep hk (by simp)).cell 1, (hk.cell (p := ⟨b, off + i * 2, none⟩) hblt (by simp)).trans x1, (hk.cell (p := ⟨b, off + k * 2 + 1, none⟩) hblt (by simp)).trans z2, (HG4.out.keep hk (by simp)).cell 0, (HG4.out.keep hk (by simp)).cell 1⟩
      have HLD := Lib.hid LD
      have HXZ := Lib.hid (And.intro hx hz)
      clear LD hcell x1 x2 z1 z2 hxx hzz hnl hrest g0 g1 hx hz
      have LD := HLD.out
      refine wp_region_held_drew (S := fun y => Keep [] w4 y) (by kernel_rfl) ((Keep.refl [] w4).drew) (fun hk0 => ?_)
      obtain ⟨W0, hW0⟩ : ∃ W0, W0 = w4.drew := ⟨_, rfl⟩
      rw [← hW0] at hk0 ⊢
      clear hW0
      go_simp
      refine wpAnyH_take (i := 0) (v := ?_) rfl (by kernel_rfl) (by kernel_rfl) (by kernel_rfl) (fun _ _ _ h => h) (Or.inl ⟨by rfl, fun y hy => ?_⟩) hk0 ?_
      rotate_left
      · go_simp; try (with_reducible rfl)
      rotate_left
      go_simp
      refine wpAnyH_take (i := 1) (v := ?_) rfl (by kernel_rfl) (by kernel_rfl) (by kernel_rfl) (fun _ _ _ h => h) (Or.inl ⟨by rfl, fun y hy => ?_⟩) hk0 ?_
      rotate_left
      · go_simp; try (with_reducible rfl)
      rotate_left
      go_simp
      refine wpAnyH_take (i := 2) (v := ?_) rfl (by kernel_rfl) (by kernel_rfl) (by kernel_rfl) (fun _ _ _ h => h) (Or.inl ⟨by rfl, fun y hy => ?_⟩) hk0 ?_
      rotate_left
      · go_simp; try (with_reducible rfl)
      rotate_left
      go_simp
      refine wpAnyH_take (i := 3) (v := ?_) rfl (by kernel_rfl) (by kernel_rfl) (by kernel_rfl) (fun _ _ _ h => h) (Or.inl ⟨by rfl, fun y hy => ?_⟩) hk0 ?_
      rotate_left
      · have q := (LD y hy).1; go_simp; try (with_reducible rfl)
      rotate_left
      go_simp
      refine wpAnyH_take (i := 4) (v := ?_) rfl (by kernel_rfl) (by kernel_rfl) (by kernel_rfl) (fun _ _ _ h => h) (Or.inl ⟨by rfl, fun y hy => ?_⟩) hk0 ?_
      rotate_left
      · go_simp; try (with_reducible rfl)
      rotate_left
      go_simp
      refine wpAnyH_take (i := 5) (v := ?_) rfl (by kernel_rfl) (by kernel_rfl) (by kernel_rfl) (fun _ _ _ h => h) (Or.inl ⟨by rfl, fun y hy => ?_⟩) hk0 ?_
      rotate_left
      · go_simp; try (with_reducible rfl)
      rotate_left
      go_simp
      refine wpAnyH_take (i := 6) (v := ?_) rfl (by kernel_rfl) (by kernel_rfl) (by kernel_rfl) (fun _ _ _ h => h) (Or.inl ⟨by rfl, fun y hy => ?_⟩) hk0 ?_
      rotate_left
      · go_simp; try (with_reducible rfl)
      rotate_left
      go_simp
      refine wpAnyH_take (i := 7) (v := ?_) rfl (by kernel_rfl) (by kernel_rfl) (by kernel_rfl) (fun _ _ _ h => h) (Or.inl ⟨by rfl, fun y hy => ?_⟩) hk0 ?_
      rotate_left
      · have q := (LD y hy).2.1; go_simp; try (with_reducible rfl)
      rotate_left
      go_simp
      refine wpAnyH_take (i := 8) (v := ?_) rfl (by kernel_rfl) (by kernel_rfl) (by kernel_rfl) (fun _ _ _ h => h) (Or.inl ⟨by rfl, fun y hy => ?_⟩) hk0 ?_
      rotate_left
      · go_simp; try (with_reducible rfl)
      rotate_left
      go_simp
      refine wpAnyH_take (i := 9) (v := ?_) rfl (by kernel_rfl) (by kernel_rfl) (by kernel_rfl) (fun _ _ _ h => h) (Or.inl ⟨by rfl, fun y hy => ?_⟩) hk0 ?_
      rotate_left
      · have q := (LD y hy).2.2.2.1; go_simp; try (with_reducible rfl)
      rotate_left
      go_simp
      refine wpAnyH_take (i := 10) (v := ?_) rfl (by kernel_rfl) (by kernel_rfl) (by kernel_rfl) (fun _ _ _ h => h) (Or.inl ⟨by rfl, fun y hy => ?_⟩) hk0 ?_
      rotate_left
      · go_simp; try (with_reducible rfl)
      rotate_left
      go_simp
      refine wpAnyH_take (i := 11) (v := ?_) rfl (by kernel_rfl) (by kernel_rfl) (by kernel_rfl) (fun _ _ _ h => h) (Or.inl ⟨by rfl, fun y hy => ?_⟩) hk0 ?_
      rotate_left
      · go_simp; try (with_reducible rfl)
      rotate_left
      go_simp
      refine wpAnyH_take (i := 12) (v := ?_) rfl (by kernel_rfl) (by kernel_rfl) (by kernel_rfl) (fun _ _ _ h => h) (Or.inl ⟨by rfl, fun y hy => ?_⟩) hk0 ?_
      rotate_left
      · have q := (LD y hy).2.2.2.2; go_simp; try (with_reducible rfl)
      rotate_left
      go_simp
      refine wpAnyH_take (i := 13) (v := ?_) rfl (by kernel_rfl) (by kernel_rfl) (by kernel_rfl) (fun _ _ _ h => h) (Or.inl ⟨by rfl, fun y hy => ?_⟩) hk0 ?_
      rotate_left
      · go_simp; try (with_reducible rfl)
      rotate_left
      go_simp
      refine wpAnyH_take (i := 14) (v := ?_) rfl (by kernel_rfl) (by kernel_rfl) (by kernel_rfl) (fun _ _ _ h => h) (Or.inl ⟨by rfl, fun y hy => ?_⟩) hk0 ?_
      rotate_left
      · go_simp; try (with_reducible rfl)
      rotate_left
      go_simp
      refine wpAnyH_take (i := 15) (v := ?_) rfl (by kernel_rfl) (by kernel_rfl) (by kernel_rfl) (fun _ _ _ h => h) (Or.inl ⟨by rfl, fun y hy => ?_⟩) hk0 ?_
      rotate_left
      · go_simp; try (with_reducible rfl)
      rotate_left
      go_simp
      refine wpAnyH_take (i := 16) (v := ?_) rfl (by kernel_rfl) (by kernel_rfl) (by kernel_rfl) (fun _ _ _ h => h) (Or.inl ⟨by rfl, fun y hy => ?_⟩) hk0 ?_
      rotate_left
      · have q := (LD y hy).1; go_simp; try (with_reducible rfl)
      rotate_left
      go_simp
      refine wpAnyH_take (i := 17) (v := ?_) rfl (by kernel_rfl) (by kernel_rfl) (by kernel_rfl) (fun _ _ _ h => h) (Or.inl ⟨by rfl, fun y hy => ?_⟩) hk0 ?_
      rotate_left
      · go_simp; try (with_reducible rfl)
      rotate_left
      go_simp
      refine wpAnyH_take (i := 18) (v := ?_) rfl (by kernel_rfl) (by kernel_rfl) (by kernel_rfl) (fun _ _ _ h => h) (Or.inl ⟨by rfl, fun y hy => ?_⟩) hk0 ?_
      rotate_left
      · go_simp; try (with_reducible rfl)
      rotate_left
      go_simp
      refine wpAnyH_take (i := 19) (v := ?_) rfl (by kernel_rfl) (by kernel_rfl) (by kernel_rfl) (fun _ _ _ h => h) (Or.inl ⟨by rfl, fun y hy => ?_⟩) hk0 ?_
      rotate_left
      · go_simp; try (with_reducible rfl)
      rotate_left
      go_simp
      refine wpAnyH_take (i := 20) (v := ?_) rfl (by kernel_rfl) (by kernel_rfl) (by kernel_rfl) (fun _ _ _ h => h) (Or.inl ⟨by rfl, fun y hy => ?_⟩) hk0 ?_
      rotate_left
      · go_simp; try (with_reducible rfl)
      rotate_left
      go_simp
      refine wpAnyH_take (i := 21) (v := ?_) rfl (by kernel_rfl) (by kernel_rfl) (by kernel_rfl) (fun _ _ _ h => h) (Or.inl ⟨by rfl, fun y hy => ?_⟩) hk0 ?_
      rotate_left
      · have q := (LD y hy).2.2.1; go_simp; try (with_reducible rfl)
      rotate_left
      go_simp
      refine wpAnyH_take (i := 22) (v := ?_) rfl (by kernel_rfl) (by kernel_rfl) (by kernel_rfl) (fun _ _ _ h => h) (Or.inl ⟨by rfl, fun y hy => ?_⟩) hk0 ?_
      rotate_left
      · go_simp; try (with_reducible rfl)
      rotate_left
      go_simp
      refine wpAnyH_ready (rs := [23]) (by kernel_rfl) (by simp) ?_
      refine AllReadyH.cons rfl (fun K hK => ?_) AllReadyH.nil
      apply step_wp
      · rfl
      refine ow_slice _ 26 2 _ rfl Try.underlying42 #[.int .u64 (xa : Nat), .int .u64 (ra : Nat), .int .u64 (rb : Nat), .int .u64 (zb : Nat)] [(0, .agg #[.int .u64 (xa : Nat), .int .u64 (ra : Nat)]), (1, .agg #[.int .u64 (rb : Nat), .int .u64 (zb : Nat)])] (by kernel_rfl) (by kernel_rfl) ?_
      intro T W1 hT hbT hs1
      have HT := Lib.hid (show w.heap.size ≤ T by rw [hT]; exact Nat.le_trans HK4.out.size hk0.size)
      have hk1 : Keep [] w4 W1 := hk0.trans hs1
      have HBT := Lib.hid hbT
      clear hT hbT
      refine hK.out _ _ hk1 (fun _ => ?_)
      clear hK K
      go_simp
      refine wpAnyH_take (i := 24) (v := ?_) rfl (by kernel_rfl) (by kernel_rfl) (by kernel_rfl) (fun _ _ _ h => h) (Or.inl ⟨by rfl, fun y hy => ?_⟩) hk1 ?_
      rotate_left
      · go_simp; try (with_reducible rfl)
      rotate_left
      go_simp
      refine wpAnyH_done (by kernel_rfl) ?_ _
      have HK1 := Lib.hid (HK4.out.trans hk1)
      obtain ⟨F, hF⟩ : ∃ F, F = [(xa, ra), (rb, zb)].filter fun x => !emp x := ⟨_, rfl⟩
      have hFP : P64 F := by
        rw [hF]
        intro x hx
        have hx2 := (List.mem_filter.1 hx).1
        simp only [List.mem_cons, List.not_mem_nil, or_false] at hx2
        rcases hx2 with rfl | rfl
        · exact ⟨HXZ.out.1.1, h1⟩
        · exact ⟨h2, HXZ.out.2.2⟩
      have hFl : F.length ≤ 2 := by rw [hF]; exact List.length_filter_le _ _
      have hRF : R = l.take i ++ F ++ l.drop (k + 1) := by rw [HRl.out, HREST.out, hF]
      have DF : Hid (Calls Try.prog 37 #[.slice (some ⟨T, 0, none⟩) 2 2, .func (.func 28) #[] #[]] W1 fun e w6 => ∃ v', e = .returned v' ∧ Keep [] w w6 ∧
          Hid (Calls Try.prog 30 #[.pointer (some ⟨s, 0, none⟩), .int .i64 (i : Nat), .int .i64 ((k : Int) + 1), v'] w6 fun e w' => ∃ c S', e = .returned (.int .i64 c) ∧ ((R.length ≤ m ∧ c = 0 ∧ SpS w' S' s m R) ∨ (m < R.length ∧ c = 7 ∧ SpS w' S' s m l)) ∧ (∀ x ∈ S', x ∈ S ∨ w.heap.size ≤ x) ∧ Keep S w w')) := by
        refine Lib.hid ((delfunc_any W1 T 2 (pcs [(xa, ra), (rb, zb)]) [(xa, ra), (rb, zb)] HBT.out rfl (by simp) (by decide) rfl (fun x hx => ?_) (by simp)).mono ?_)
        · simp only [List.mem_cons, List.not_mem_nil, or_false] at hx
          rcases hx with rfl | rfl
          · exact ⟨HXZ.out.1.1, h1⟩
          · exact ⟨h2, HXZ.out.2.2⟩
        · rintro e w6 ⟨v', rfl, hrow⟩
          rw [← hF] at hrow
          obtain ⟨ho6, hk6, hg6⟩ := RowTo.open hrow
          have hk6' : Keep [] w w6 := HK1.out.trans' hk6 (fun g hg => .inr (by rw [List.mem_singleton.1 hg]; exact HT.out))
          refine ⟨v', rfl, hk6', ?_⟩
          have PUT := put_any w6 (HS.out.keep hk6' (by simp)) v' F ho6 (fun g hg hgS => by
            have := HS.out.lt g hgS
            rcases hg6 g hg with h' | h'
            · have e : T = g := Option.some.inj h'
              have := HT.out
              omega
            · have := HK1.out.size; omega) i (k + 1) (by omega) (by have := HN.out; omega) (by have := HN.out; omega) (by omega) (by rw [← hRF]; exact HNRM.out) hFP
          rw [← hRF, show ((k + 1 : Nat) : Int) = (k : Int) + 1 by omega] at PUT
          refine Lib.hid (PUT.mono ?_)
          rintro e w' ⟨c, S', rfl, hc, hS', hk⟩
          exact ⟨c, S', rfl, hc, fun x hx => (hS' x hx).imp id (fun h => Nat.le_trans hk6'.size h), hk6'.more0.trans hk⟩
      clear hF hFP hFl hRF hk1 hk0 LD
      simp only [Exit.then]
      go_wp2_with (first
        | (go_at_call 37; with_reducible refine DF.out.mono ?_; rintro e w6 ⟨v', rfl, hk6, hPU⟩; have PU := hPU; clear hPU hk6)
        | (go_at_call 30; with_reducible refine PU.out.mono ?_; rintro e w7 ⟨cc, S', rfl, hc, hS', hk7⟩; have HC := Lib.hid hc; have HS' := Lib.hid hS'; have HK7 := Lib.hid hk7; clear hc hS' hk7))
      go_ret
      exact ⟨cc, S', rfl, HC.out, HS'.out, HK7.out⟩
end
end Go.Proofs.Ytpckbmebdhmfaaa
