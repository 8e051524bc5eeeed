/-
  The landed span: First, Has, Covers, Last.
-/
import Derived.Test.YtpckbmebdhmfaaaSpN4
namespace Go.Proofs.Ytpckbmebdhmfaaa
open Go.RowKit

theorem getD_mem (l : List (Nat × Nat)) (i : Nat) (h : i < l.length) : l.getD i (0, 0) ∈ l := by
  rw [List.getD_eq_getElem?_getD, List.getElem?_eq_getElem h]
  exact List.getElem_mem _
section
variable (w : World)
set_option maxRecDepth 100000
set_option maxHeartbeats 4000000
theorem first_any {S : List Nat} {s m : Nat} {l : List (Nat × Nat)} (k : Nat) (h : SpS w S s m l) (hn : l.length ≤ 1000000) (hk : k < 18446744073709551616) :
    Calls Try.prog 24 #[.pointer (some ⟨s, 0, none⟩), .int .u64 k] w fun e w' => e = .returned (found (Span.first l k)) ∧ Keep [] w w' := by
  have HO := Lib.hid h.ok
  obtain ⟨lim, v, h1, hv, -⟩ := h.s2
  have HB := Lib.hid h1
  have HL := Lib.hid hv
  have ef := enters_of Try.func38 (by kernel_rfl) rfl
  obtain ⟨p, hp⟩ : ∃ p : Nat × Nat → Bool, p = fun x => decide (k < x.2) := ⟨_, rfl⟩
  have FND : Hid (∀ W NB, Keep [] w W → Blk W NB 24 #[.int .u64 k] → Calls Try.prog 34 #[.pointer (some ⟨s, 0, none⟩), .func (.func 38) #[] #[.pointer (some ⟨NB, 0, none⟩)]] W fun e w' => e = .returned (.int .i64 ((Span.fi p l : Nat) : Int)) ∧ Keep [] W w') := by
    intro W NB hW hNB
    refine find_any W p (HB.out.keep hW (by simp)) (HL.out.keep0 hW) hn ef (fun W' x hk' hx => ?_) (fun i j h1 h2 h3 => HO.out.1.rise p (fun x y h1 h2 h3 h4 => ?_) i j h1 h2 h3)
    · rw [hp]
      exact p38_any W' x k NB (hNB.keep hk' (by simp)) (HO.out.2.1 x hx).1 (HO.out.2.1 x hx).2 hk
    · rw [hp] at h4 ⊢
      simp only [decide_eq_true_eq] at h4 ⊢
      omega
  have HF := Lib.hid (show Span.first l k = _ from hp ▸ Span.fi_first HO.out.1 k)
  have hle := Span.fi_le p l
  have bk := u64_lt hk
  obtain ⟨f, hf⟩ : ∃ f, f = Span.fi p l := ⟨_, rfl⟩
  rw [← hf] at FND hle HF
  obtain ⟨A, c, rfl, hc1, hc2, -, -⟩ := hv
  obtain ⟨n, hnl⟩ : ∃ n, n = l.length := ⟨_, rfl⟩
  rw [← hnl] at HL hc1 hn hle HF h1 HB
  have HN := Lib.hid hnl
  clear h hf hp hnl h1
  go_enter Try.func24, Try.ntmps24
  go_upto_region 4 with (go_at_call 34; with_reducible refine (FND.out _ w.heap.size (((Keep.refl [] w).alloc _).alloc _) ((Blk.new w 24 #[.int .u64 k]).alloc _)).mono ?_; rintro e w1 ⟨rfl, hk1⟩; have HK1 := Lib.hid ((((Keep.refl [] w).alloc _).alloc _).trans hk1); have HR := Lib.hid ((Blk.new (w.alloc (.cells #[.int .u64 k] 24)) 26 #[.int .u64 0, .int .u64 0]).keep hk1 (by simp)); have HNB := Lib.hid (((Blk.new w 24 #[.int .u64 k]).alloc _).keep hk1 (by simp)); clear hk1)
  have c1 : w1.cell? ⟨s, 1, none⟩ = some (.slice A n c) := (HB.out.keep HK1.out (by simp)).cell 1
  have k0 : w1.cell? ⟨w.heap.size, 0, none⟩ = some (.int .u64 k) := HNB.out.cell 0
  obtain ⟨G, hG⟩ : ∃ G, G = w.heap.size + 1 := ⟨_, rfl⟩
  obtain ⟨G0, hG0⟩ : ∃ G0, G0 = w.heap.size := ⟨_, rfl⟩
  have HR2 : Hid (Blk w1 G 26 #[.int .u64 0, .int .u64 0]) := Lib.hid (by rw [hG]; simpa using HR.out)
  have HGk := Lib.hid (show w.heap.size ≤ G by omega)
  have r0 : w1.cell? ⟨G, 0, none⟩ = some (.int .u64 0) := HR2.out.cell 0
  have r1 : w1.cell? ⟨G, 1, none⟩ = some (.int .u64 0) := HR2.out.cell 1
  have f0 := HR2.out.frozen 0
  have f1 := HR2.out.frozen 1
  rw [← hG0] at k0
  have HLR := Lib.hid (HL.out.keep0 HK1.out)
  rw [← hG, ← hG0]
  clear hG hG0 HR HNB
  by_cases hfn : f = n
  · subst hfn
    have HF0 := Lib.hid (show Span.first l k = none by rw [HF.out, if_neg (Nat.lt_irrefl _)])
    go_wp2_with fail
    refine bodyPost_ret (v := .tuple #[pv (0, 0), .bool false]) ?_ rfl ⟨by rw [HF0.out]; rfl, ?_⟩
    · exact res_row_tmp Try.results24 _ _ G (0, 0) rfl _ rfl (by rw [(HR2.out.put2 _ _).cell]; rfl) (by rw [(HR2.out.put2 _ _).cell]; rfl)
    · exact (HK1.out.setCell (p := ⟨G, 0, none⟩) (.inr HGk.out) _).setCell (p := ⟨G, 1, none⟩) (.inr HGk.out) _
  · have hlt : f < n := by omega
    have hne1 : ¬ ((f : Int) = (n : Int)) := by omega
    have hne2 : ((f : Int) == (n : Int)) = false := beq_eq_false_iff_ne.2 hne1
    have HF0 := Lib.hid (show Span.first l k = some (max (l.getD f (0, 0)).1 k, (l.getD f (0, 0)).2) by rw [HF.out, if_pos hlt])
    have hnl := HN.out
    have hx := HLR.out.p64.getD f
    obtain ⟨b, off, c', he, -, -, hblt, hcell⟩ := HLR.out.cells (by omega)
    simp only [Value.slice.injEq] at he
    obtain ⟨rfl, -, rfl⟩ := he
    obtain ⟨x1, x2⟩ := hcell f (by omega)
    obtain ⟨x, hxx⟩ : ∃ x, x = l.getD f (0, 0) := ⟨_, rfl⟩
    rw [← hxx] at hx x1 x2 HF0
    obtain ⟨xa, xb⟩ := x
    simp only at x1 x2 hx HF0
    have bi : (0 : Int) ≤ f ∧ (f : Int) < n := ⟨by omega, by omega⟩
    obtain ⟨hx1, hx2⟩ := hx
    have by1 := u64_lt hx1
    have by2 := u64_lt hx2
    have k0a := fun o => Lib.cell?_alloc_some (W := w1) o k0
    have r0a := fun o => Lib.cell?_alloc_some (W := w1) o r0
    have r1a := fun o => Lib.cell?_alloc_some (W := w1) o r1
    have f0a := fun o => (HR2.out.alloc o).frozen 0
    have f1a := fun o => (HR2.out.alloc o).frozen 1
    clear hcell hxx hnl r0 r1 f0 f1
    go_wp2_with fail
    refine bodyPost_ret (v := .tuple #[pv (max xa k, xb), .bool true]) ?_ rfl ⟨by rw [HF0.out]; rfl, ?_⟩
    · refine res_row_tmp Try.results24 _ _ G (max xa k, xb) rfl _ rfl ?_ ?_
      · rw [((HR2.out.alloc _).put2 _ _).cell]
        show some (Value.int .u64 (max (xa : Int) (k : Int))) = _
        congr 2
        simp only
        omega
      · rw [((HR2.out.alloc _).put2 _ _).cell]; rfl
    · exact ((HK1.out.alloc _).setCell (p := ⟨G, 0, none⟩) (.inr HGk.out) _).setCell (p := ⟨G, 1, none⟩) (.inr HGk.out) _
theorem has_any {S : List Nat} {s m : Nat} {l : List (Nat × Nat)} (k : Nat) (h : SpS w S s m l) (hn : l.length ≤ 1000000) (hk : k < 18446744073709551616) :
    Calls Try.prog 25 #[.pointer (some ⟨s, 0, none⟩), .int .u64 k] w fun e w' => e = .returned (.bool (Span.hasB l k)) ∧ Keep [] w w' := by
  have HF := Lib.hid (first_any w k h hn hk)
  have HB := Lib.hid (Span.hasB_first h.ok.1 k)
  clear h
  rw [HB.out]
  obtain ⟨o, ho⟩ : ∃ o, o = Span.first l k := ⟨_, rfl⟩
  rw [← ho] at HF ⊢
  clear ho HB
  cases o with
  | none =>
    have HF2 : Hid (Calls Try.prog 24 #[.pointer (some ⟨s, 0, none⟩), .int .u64 k] w fun e w' => e = .returned (.tuple #[.agg #[.int .u64 0, .int .u64 0], .bool false]) ∧ Keep [] w w') := HF
    clear HF
    go_enter Try.func25, Try.ntmps25
    go_wp2_with (go_at_call 24; with_reducible refine HF2.out.mono ?_; rintro e w1 ⟨rfl, hk1⟩; have HK := Lib.hid hk1; clear hk1)
    go_ret
    exact ⟨rfl, HK.out.alloc _⟩
  | some x =>
    obtain ⟨xa, xb⟩ := x
    have HF2 : Hid (Calls Try.prog 24 #[.pointer (some ⟨s, 0, none⟩), .int .u64 k] w fun e w' => e = .returned (.tuple #[.agg #[.int .u64 (xa : Nat), .int .u64 (xb : Nat)], .bool true]) ∧ Keep [] w w') := HF
    clear HF
    by_cases hx : xa = k
    · have hz : (xa : Int) = (k : Int) := by omega
      have hz2 : ((xa : Int) == (k : Int)) = true := beq_iff_eq.2 hz
      subst hx
      clear hz hz2
      go_enter Try.func25, Try.ntmps25
      go_wp2_with (go_at_call 24; with_reducible refine HF2.out.mono ?_; rintro e w1 ⟨rfl, hk1⟩; have HK := Lib.hid hk1; clear hk1)
      go_ret
      exact ⟨by simp, HK.out.alloc _⟩
    · have hz : ¬ (xa : Int) = (k : Int) := by omega
      have hz2 : ((xa : Int) == (k : Int)) = false := beq_eq_false_iff_ne.2 hz
      go_enter Try.func25, Try.ntmps25
      go_wp2_with (go_at_call 24; with_reducible refine HF2.out.mono ?_; rintro e w1 ⟨rfl, hk1⟩; have HK := Lib.hid hk1; clear hk1)
      go_ret
      exact ⟨by simp [hx], HK.out.alloc _⟩
theorem top_any {S : List Nat} {s m : Nat} {l : List (Nat × Nat)} (h : SpS w S s m l) (hn : l.length ≤ 1000000) :
    Calls Try.prog 20 #[.pointer (some ⟨s, 0, none⟩)] w fun e w' => e = .returned (found l.getLast?) ∧ Keep [] w w' := by
  have HS := Lib.hid h
  have LN := fun W (hk : Keep [] w W) => Lib.hid (len_any W (h.keep hk (by simp)) hn)
  obtain ⟨lim, v, h1, hv, -⟩ := h.s2
  have HB := Lib.hid h1
  have HL := Lib.hid hv
  obtain ⟨A, c, rfl, hc1, hc2, -, -⟩ := hv
  clear h
  cases l with
  | nil =>
    go_enter Try.func20, Try.ntmps20
    go_wp2_with (go_at_call 19; with_reducible refine (LN _ ((Keep.refl [] w).alloc _)).out.mono ?_; rintro e w1 ⟨rfl, hk1⟩; have hB1 := (Blk.new w 26 #[.int .u64 0, .int .u64 0]).keep hk1 (by simp); have c0 := hB1.cell 0; have c1 := hB1.cell 1; have f0 := hB1.frozen 0; have f1 := hB1.frozen 1; have HK := Lib.hid (((Keep.refl [] w).alloc _).trans hk1); have HBB := Lib.hid hB1; clear hk1 hB1; simp at c0 c1)
    refine bodyPost_ret (v := .tuple #[pv (0, 0), .bool false]) ?_ rfl ⟨rfl, ?_⟩
    · exact res_row_tmp Try.results20 _ _ w.heap.size (0, 0) rfl _ rfl (by rw [(HBB.out.put2 _ _).cell]; rfl) (by rw [(HBB.out.put2 _ _).cell]; rfl)
    · exact (HK.out.setCell (p := ⟨w.heap.size, 0, none⟩) (.inr (Nat.le_refl _)) _).setCell (p := ⟨w.heap.size, 1, none⟩) (.inr (Nat.le_refl _)) _
  | cons y t =>
    have HG := Lib.hid (show (y :: t).getLast? = some ((y :: t).getD t.length (0, 0)) by rw [List.getLast?_eq_getElem?, List.getD_eq_getElem?_getD]; simp)
    obtain ⟨b, off, c', he, -, -, hblt, hcell⟩ := HL.out.cells (by simp)
    simp only [Value.slice.injEq] at he
    obtain ⟨rfl, -, rfl⟩ := he
    obtain ⟨x1, x2⟩ := hcell t.length (by simp)
    have hx := HL.out.p64.getD t.length
    obtain ⟨x, hxx⟩ : ∃ x, x = (y :: t).getD t.length (0, 0) := ⟨_, rfl⟩
    rw [← hxx] at x1 x2 HG hx
    rw [HG.out]
    obtain ⟨n, hnl⟩ : ∃ n, n = t.length := ⟨_, rfl⟩
    have hn2 : (y :: t).length = n + 1 := by rw [hnl]; rfl
    rw [hn2] at hc1 LN HB hn
    rw [← hnl] at x1 x2
    obtain ⟨xa, xb⟩ := x
    simp only at x1 x2 hx
    clear hcell hxx hnl hn2 HG HL h1 HS
    have HX := Lib.hid (And.intro x1 x2)
    obtain ⟨hx1, hx2⟩ := hx
    have by1 := u64_lt hx1
    have by2 := u64_lt hx2
    have hne1 : ¬ ((n : Int) + 1 = 0) := by omega
    have hne2 : ((n : Int) + 1 == 0) = false := beq_eq_false_iff_ne.2 hne1
    clear x1 x2
    go_enter Try.func20, Try.ntmps20
    go_upto_region 3 with (go_at_call 19; with_reducible refine (LN _ ((Keep.refl [] w).alloc _)).out.mono ?_; rintro e w1 ⟨rfl, hk1⟩; have hB1 := (Blk.new w 26 #[.int .u64 0, .int .u64 0]).keep hk1 (by simp); have c0 := hB1.cell 0; have c1 := hB1.cell 1; have f0 := hB1.frozen 0; have f1 := hB1.frozen 1; have HK := Lib.hid (((Keep.refl [] w).alloc _).trans hk1); have HBB := Lib.hid hB1; clear hk1 hB1; simp at c0 c1)
    have s1 : w1.cell? ⟨s, 1, none⟩ = some (.slice (some ⟨b, off, none⟩) (n + 1) c) := (HB.out.keep HK.out (by simp)).cell 1
    have x1 : w1.cell? ⟨b, off + n * 2, none⟩ = some (.int .u64 (xa : Nat)) := (HK.out.cell (p := ⟨b, off + n * 2, none⟩) hblt (by simp)).trans HX.out.1
    have x2 : w1.cell? ⟨b, off + n * 2 + 1, none⟩ = some (.int .u64 (xb : Nat)) := (HK.out.cell (p := ⟨b, off + n * 2 + 1, none⟩) hblt (by simp)).trans HX.out.2
    have e1 : (n : Int) + 1 - 1 = n := by omega
    have bi : (0 : Int) ≤ n ∧ (n : Int) < (n : Int) + 1 := ⟨by omega, by omega⟩
    have ew : IntKind.i64.wrap (n : Int) = (n : Int) := by rw [IntKind.wrap_i64]; omega
    go_region_with fail
    all_goals go_simp
    all_goals
      go_wp2_with fail
      refine bodyPost_ret (v := .tuple #[pv (xa, xb), .bool true]) ?_ rfl ⟨rfl, ?_⟩
      · exact res_row_tmp Try.results20 _ _ w.heap.size (xa, xb) rfl _ rfl (by rw [((HBB.out.put2 _ _).drew).cell]; rfl) (by rw [((HBB.out.put2 _ _).drew).cell]; rfl)
      · exact ((HK.out.setCell (p := ⟨w.heap.size, 0, none⟩) (.inr (Nat.le_refl _)) _).setCell (p := ⟨w.heap.size, 1, none⟩) (.inr (Nat.le_refl _)) _).drew
end
end Go.Proofs.Ytpckbmebdhmfaaa
