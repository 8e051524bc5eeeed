/-
  The landed span: AddLast.
-/
import Derived.Test.YtpckbmebdhmfaaaSpL3
import Derived.Test.YtpckbmebdhmfaaaSpK1
namespace Go.Proofs.Ytpckbmebdhmfaaa
open Go.RowKit
theorem Span.Nrm.drop {l : List Span.R} (h : Span.Nrm l) (k : Nat) : Span.Nrm (l.drop k) := by
  induction k generalizing l with
  | zero => exact h
  | succ k ih =>
    cases l with
    | nil => exact trivial
    | cons x l => exact ih h.2.2
section
variable (w : World)
set_option maxRecDepth 100000
set_option maxHeartbeats 4000000
theorem last_any {S : List Nat} {s m : Nat} {l : List (Nat × Nat)} (r : Nat × Nat) (h : SpS w S s m l) (hn : l.length ≤ 1000000) (h1 : r.1 < 18446744073709551616) (h2 : r.2 < 18446744073709551616) :
    Calls Try.prog 14 #[.pointer (some ⟨s, 0, none⟩), pv r] w fun e w' => ∃ S', e = .returned (.int .i64 (((Span.add l r).length - m : Nat) : Int)) ∧
      SpS w' S' s m ((Span.add l r).drop ((Span.add l r).length - m)) ∧ (∀ x ∈ S', x ∈ S ∨ w.heap.size ≤ x) ∧ Keep S w w' := by
  have HS := Lib.hid h
  have EM : Hid (∀ W, Calls Try.prog 28 #[.agg #[.int .u64 (r.1 : Nat), .int .u64 (r.2 : Nat)]] W fun e W' => e = .returned (.bool (decide (r.2 ≤ r.1))) ∧ Keep [] W W') := fun W => empty_any W r h1 h2
  have b1 := u64_lt h1
  have b2 := u64_lt h2
  by_cases he : r.2 ≤ r.1
  · have HA := Lib.hid (show Span.add l r = l by unfold Span.add; rw [if_neg (by omega)])
    rw [HA.out]
    have ho : l.length - m = 0 := by have := h.ok.2.2; omega
    rw [ho, List.drop_zero]
    rw [decide_eq_true he] at EM
    clear h HA ho
    obtain ⟨ra, rb⟩ := r
    simp only at EM
    show Calls Try.prog 14 #[.pointer (some ⟨s, 0, none⟩), .agg #[.int .u64 (ra : Nat), .int .u64 (rb : Nat)]] w _
    go_enter Try.func14, Try.ntmps14
    go_wp2_with (go_at_call 28; with_reducible refine (EM.out _).mono ?_; rintro e w1 ⟨rfl, hk1⟩; have HK := Lib.hid (((Keep.refl [] w).alloc _).trans hk1); clear hk1)
    go_ret
    exact ⟨S, rfl, HS.out.keep HK.out (by simp), fun x hx => .inl hx, HK.out.more0⟩
  · rw [decide_eq_false he] at EM
    have hr : r.1 < r.2 := by omega
    obtain ⟨lim, v, hB, hv, hlw, hmm⟩ := h.s2
    have hok := h.ok
    have hij := Span.fi_add_le hok.1 r hr
    have hjl := Span.fi_le (fun x => decide (r.2 < x.1)) l
    have JO := fun W (hk : Keep [] w W) => joined_any W r (hB.keep hk (by simp)) (hv.keep0 hk) hok.1 hn h1 h2
    have hA := Span.addL_fi hok.1 r hr
    rw [show Span.addL l r = Span.add l r by unfold Span.add; rw [if_pos hr]] at hA
    obtain ⟨i, hi⟩ : ∃ i, i = Span.fi (fun x => decide (r.1 ≤ x.2)) l := ⟨_, rfl⟩
    obtain ⟨j, hj⟩ : ∃ j, j = Span.fi (fun x => decide (r.2 < x.1)) l := ⟨_, rfl⟩
    rw [← hi, ← hj] at JO hA hij
    rw [← hj] at hjl
    have hy64 := whole_lt (i := i) (j := j) hok.2.1 h1 h2
    obtain ⟨y, hy⟩ : ∃ y, y = Span.whole l r i j := ⟨_, rfl⟩
    rw [← hy] at JO hA hy64
    have hnrm := Span.add_nrm hok.1 r
    obtain ⟨R, hR⟩ : ∃ R, R = Span.add l r := ⟨_, rfl⟩
    rw [← hR] at hA hnrm ⊢
    have hA2 : R = l.take i ++ [y] ++ l.drop j := by rw [hA]; simp
    obtain ⟨lim2, v2, q1, q2, q3, q4, q5, q6, q7, q8⟩ := h
    have hsne : v2.ownBlock ≠ some s := own_ne_blk q4 q1 (by decide)
    have RP : Hid (∀ W B, Keep [] w W → Blk W B 26 (pc y).toArray → w.heap.size ≤ B → Calls Try.prog 31 #[v2, .int .i64 (i : Nat), .int .i64 (j : Nat), .slice (some ⟨B, 0, none⟩) 1 1] W fun e w' => ∃ A' c', e = .returned (.slice A' R.length c') ∧
        w'.ownsRow 0 26 2 (.slice A' R.length c') R.length (pcs R) ∧ Keep (s :: v2.ownBlock.toList) w w' ∧ (∀ g, (Value.slice A' R.length c').ownBlock = some g → v2.ownBlock = some g ∨ w.heap.size ≤ g) ∧ Blk w' s 58 #[.int .i64 lim2, v2]) := by
      refine Lib.hid (fun W B hW hBB hle => ?_)
      have RR := replace_rows W v2 (.slice (some ⟨B, 0, none⟩) 1 1) l [y] i j (own_keep0 q4 hW) (own_one y hBB) (fun g hg hgS => by
        have e : B = g := Option.some.inj hg
        have := (own_lt q4 g hgS).1
        omega) hij hjl hn (by simp)
      rw [← hA2] at RR
      refine RR.mono ?_
      rintro e w5 ⟨v', rfl, hrow⟩
      obtain ⟨ho5, hk5, hg5⟩ := RowTo.open hrow
      obtain ⟨A', c', rfl⟩ := own_slice ho5
      refine ⟨A', c', rfl, ho5, (hW.more0 (S := s :: v2.ownBlock.toList)).trans' hk5 (fun g hg => .inl (List.mem_cons_of_mem _ hg)), fun g hg => (hg5 g hg).imp id (fun h => Nat.le_trans hW.size h), (q1.keep hW (by simp)).keep hk5 (fun hm => absurd (show v2.ownBlock = some s by simpa using hm) hsne)⟩
    have HSN := Lib.hid hsne
    have HBS := Lib.hid q1
    have H2 := Lib.hid q2
    have H3 := Lib.hid q3
    have H5 := Lib.hid q5
    have HNRM := Lib.hid hnrm
    have hPR : P64 R := by
      rw [hA2]
      exact P64.append (P64.append (fun x hx => hok.2.1 x (List.mem_of_mem_take hx)) (P64.one hy64.1 hy64.2)) (fun x hx => hok.2.1 x (List.mem_of_mem_drop hx))
    have HPR := Lib.hid hPR
    have hRl : R.length ≤ l.length + 1 := by rw [hR]; exact Span.add_len l r
    obtain ⟨A, c, rfl⟩ := own_slice q4
    obtain ⟨n, hnl⟩ : ∃ n, n = l.length := ⟨_, rfl⟩
    have HNL := Lib.hid hnl
    rw [← hnl] at RP HBS HSN H5 hn hRl hjl
    obtain ⟨nr, hnr⟩ : ∃ nr, nr = R.length := ⟨_, rfl⟩
    obtain ⟨o, ho⟩ : ∃ o, o = nr - m := ⟨_, rfl⟩
    have HNR := Lib.hid hnr
    have HO := Lib.hid ho
    rw [← hnr] at hRl RP ⊢
    rw [← ho]
    have bl := wf_i64 q2
    have hmz : ((m : Nat) : Int) = max lim2 1 := by rw [q3]; omega
    have eo : max 0 ((nr : Int) - max lim2 1) = (o : Int) := by omega
    have ew : IntKind.i64.wrap ((nr : Int) - max lim2 1) = (nr : Int) - max lim2 1 := by rw [IntKind.wrap_i64]; omega
    clear q1 q2 q3 q4 q5 q6 q7 q8 hsne hPR hnl hnr ho hmz hlw hmm HS
    clear hB hv hok hA hA2 hnrm hR hy hi hj
    obtain ⟨ra, rb⟩ := r
    obtain ⟨ya, yb⟩ := y
    simp only at EM hy64
    have JO2 : Hid (∀ W, Keep [] w W → Calls Try.prog 29 #[.pointer (some ⟨s, 0, none⟩), .agg #[.int .u64 (ra : Nat), .int .u64 (rb : Nat)]] W fun e w' => e = .returned (.tuple #[.int .i64 (i : Nat), .int .i64 (j : Nat), .agg #[.int .u64 (ya : Nat), .int .u64 (yb : Nat)]]) ∧ Keep [] W w') := Lib.hid (fun W hk => JO W hk)
    clear JO
    have by1 := u64_lt hy64.1
    have by2 := u64_lt hy64.2
    show Calls Try.prog 14 #[.pointer (some ⟨s, 0, none⟩), .agg #[.int .u64 (ra : Nat), .int .u64 (rb : Nat)]] w _
    go_enter Try.func14, Try.ntmps14
    go_upto_region 4 with (first
      | (go_at_call 28; with_reducible refine (EM.out _).mono ?_; rintro e w1 ⟨rfl, hk1⟩; have HK := Lib.hid (((Keep.refl [] w).alloc _).trans hk1); have HB := Lib.hid ((Blk.new w 26 #[.int .u64 (ra : Nat), .int .u64 (rb : Nat)]).keep hk1 (by simp)); have c0 := HB.out.cell 0; have c1 := HB.out.cell 1; simp at c0 c1; clear hk1)
      | (go_at_call 29; with_reducible refine (JO2.out _ HK.out).mono ?_; rintro e w2 ⟨rfl, hk2⟩; have HK2 := Lib.hid (HK.out.trans hk2); clear hk2))
    have HN2 := Lib.hid (Blk.new w2 26 #[.int .u64 (ya : Nat), .int .u64 (yb : Nat)])
    have HKA := Lib.hid (HK2.out.alloc (.cells #[.int .u64 (ya : Nat), .int .u64 (yb : Nat)] 26))
    have hG2 : ∃ G2, G2 = w2.heap.size := ⟨_, rfl⟩
    obtain ⟨w3, hw3⟩ : ∃ w3, w3 = w2.alloc (.cells #[.int .u64 (ya : Nat), .int .u64 (yb : Nat)] 26) := ⟨_, rfl⟩
    rw [← hw3] at HN2 HKA ⊢
    obtain ⟨G2, hG2⟩ := hG2
    rw [← hG2] at HN2 ⊢
    have d0 := HN2.out.cell 0
    have d1 := HN2.out.cell 1
    simp at d0 d1
    clear hw3 hG2 c0 c1
    have c1' : w3.cell? ⟨s, 1, none⟩ = some (.slice A n c) := (HBS.out.keep HKA.out (by simp)).cell 1
    have c1a := fun o => Lib.cell?_alloc_some (W := w3) o c1'
    have RP2 := Lib.hid (RP.out _ w3.heap.size (HKA.out.alloc (.cells #[.int .u64 (ya : Nat), .int .u64 (yb : Nat)] 26)).drew (Blk.new w3 _ _).drew HKA.out.size)
    clear RP
    go_region_with (go_at_call 31; with_reducible refine RP2.out.mono ?_; rintro e w5 ⟨A', c', rfl, ho5, hk5, hg5, hb5⟩; have HO5 := Lib.hid ho5; have HK5 := Lib.hid hk5; have HG5 := Lib.hid hg5; have HB5 := Lib.hid hb5; have c15 := HB5.out.cell 1; have f15 := HB5.out.frozen 1; simp at c15; clear ho5 hk5 hg5 hb5)
    all_goals go_simp
    all_goals (clear c15 f15; revert HB5 HG5 HK5 HO5; revert c' A' w5; refine ?nx)
    case nx =>
      intro w5 A' c' HO5 HK5 HG5 HB5
      have hS6 : Keep [s] w5 (w5.setCell ⟨s, 1, none⟩ (.slice A' nr c')) := (Keep.refl _ _).setCell (p := ⟨s, 1, none⟩) (.inl (by simp)) _
      have hns : ∀ g, (Value.slice A' nr c').ownBlock = some g → g ≠ s := fun g hg h => by
        rcases HG5.out g hg with h' | h'
        · exact absurd (show (Value.slice A n c).ownBlock = some s by rw [h', h]) HSN.out
        · have := HBS.out.lt; omega
      have HB6 : Hid (Blk (w5.setCell ⟨s, 1, none⟩ (.slice A' nr c')) s 58 #[.int .i64 lim2, .slice A' nr c']) := Lib.hid (by simpa using HB5.out.set_ 1 (.slice A' nr c'))
      have HO6 := Lib.hid (own_keep HO5.out hS6 (fun g hg => by simpa using hns g hg))
      have HK6 := Lib.hid (HK5.out.trans' hS6 (fun g hg => .inl (by rw [List.mem_singleton.1 hg]; simp)))
      obtain ⟨w6, hw6⟩ : ∃ w6, w6 = w5.setCell ⟨s, 1, none⟩ (.slice A' nr c') := ⟨_, rfl⟩
      rw [← hw6] at HB6 HO6 HK6 ⊢
      have HNS := Lib.hid hns
      have MO := fun k => Lib.hid (most_any (w6.drewN k) (HB6.out.drewN k) H2.out)
      have DE : Hid (∀ W, Keep [] w6 W → Calls Try.prog 33 #[.slice A' nr c', .int .i64 0, .int .i64 (o : Nat)] W fun e w' => ∃ A2 c2, e = .returned (.slice A2 (nr - o) c2) ∧
          w'.ownsRow 0 26 2 (.slice A2 (nr - o) c2) (nr - o) (pcs (R.drop o)) ∧ Keep (Value.slice A' nr c').ownBlock.toList W w' ∧ (∀ g, (Value.slice A2 (nr - o) c2).ownBlock = some g → (Value.slice A' nr c').ownBlock = some g ∨ W.heap.size ≤ g)) := by
        refine Lib.hid (fun W hW => ?_)
        have hno : nr - o = (R.drop o).length := by rw [List.length_drop, ← HNR.out]
        rw [hno]
        have DD := delete_rows W (.slice A' nr c') R o (by rw [← HNR.out]; exact own_keep0 HO6.out hW) (by rw [← HNR.out, HO.out]; omega) (by rw [← HNR.out]; omega)
        refine DD.mono ?_
        rintro e w7 ⟨v7, rfl, hrow⟩
        obtain ⟨ho7, hk7, hg7⟩ := RowTo.open hrow
        obtain ⟨A2, c2, rfl⟩ := own_slice ho7
        exact ⟨A2, c2, rfl, ho7, hk7, hg7⟩
      have c16 : w6.cell? ⟨s, 1, none⟩ = some (.slice A' nr c') := HB6.out.cell 1
      clear hw6 hS6 hns HB5 HO5 HK5 c1' c1a RP2 HKA HN2 d0 d1 HK2
      go_upto_region 5 with fail
      go_quiet ((go_at_call 32; exact Calls.quiet_of_same (MO _).out))
      obtain ⟨w7, hw7⟩ : ∃ w7, w7 = w6.drewN nq := ⟨_, rfl⟩
      have HK7 : Hid (Keep [] w6 w7) := Lib.hid (by rw [hw7]; exact (Keep.refl _ _).drewN _)
      rw [← hw7]
      have c17 : w7.cell? ⟨s, 1, none⟩ = some (.slice A' nr c') := (HB6.out.keep HK7.out (by simp)).cell 1
      clear hw7 c16 MO
      have DE2 := Lib.hid (DE.out w7 HK7.out)
      clear DE
      go_wp2_with (go_at_call 33; with_reducible refine DE2.out.mono ?_; rintro e w8 ⟨A2, c2, rfl, ho8, hk8, hg8⟩; have HO8 := Lib.hid ho8; have HK8 := Lib.hid hk8; have HG8 := Lib.hid hg8; have HB8 := Lib.hid ((HB6.out.keep HK7.out (by simp)).keep hk8 (fun hm => absurd rfl (HNS.out s (by simpa using hm)))); have c18 := HB8.out.cell 1; have f18 := HB8.out.frozen 1; simp at c18; clear ho8 hk8 hg8)
      go_ret
      have hS8 : Keep [s] w8 (w8.setCell ⟨s, 1, none⟩ (.slice A2 (nr - o) c2)) := (Keep.refl _ _).setCell (p := ⟨s, 1, none⟩) (.inl (by simp)) _
      have hn8 : ∀ g, (Value.slice A2 (nr - o) c2).ownBlock = some g → g ≠ s := fun g hg h => by
        rcases HG8.out g hg with h' | h'
        · exact absurd h (HNS.out g h')
        · have := (HB6.out.keep HK7.out (by simp)).lt; omega
      have hdl : (R.drop o).length = nr - o := by rw [List.length_drop, ← HNR.out]
      refine ⟨s :: (Value.slice A2 (nr - o) c2).ownBlock.toList, rfl, ⟨lim2, _, by simpa using HB8.out.set_ 1 (.slice A2 (nr - o) c2), H2.out, H3.out, ?_, rfl, HNRM.out.drop o, fun x hx => HPR.out x (List.mem_of_mem_drop hx), ?_⟩, fun x hx => ?_, ?_⟩
      · rw [hdl]; exact own_keep HO8.out hS8 (fun g hg => by simpa using hn8 g hg)
      · rw [hdl, HO.out]; omega
      · rw [H5.out]
        rcases List.mem_cons.1 hx with rfl | hx
        · exact .inl (by simp)
        · rcases HG8.out x (by simpa using hx) with h' | h'
          · rcases HG5.out x h' with h'' | h''
            · exact .inl (by simp [h''])
            · exact .inr h''
          · exact .inr (Nat.le_trans (Nat.le_trans HK6.out.size HK7.out.size) h')
      · rw [H5.out]
        refine ((HK6.out.trans0 HK7.out).trans' HK8.out (fun g hg => ?_)).trans' hS8 (fun g hg => .inl (by rw [List.mem_singleton.1 hg]; simp))
        rcases HG5.out g (by simpa using hg) with h'' | h''
        · exact .inl (by simp [h''])
        · exact .inr h''
end
end Go.Proofs.Ytpckbmebdhmfaaa
