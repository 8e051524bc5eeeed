/-
  The landed span: a set's ranges from place i to below place j, others in their place, unless there would be too many.
-/
import Derived.Test.YtpckbmebdhmfaaaSpJ4
import Derived.Test.YtpckbmebdhmfaaaSpK2
import Derived.Test.YtpckbmebdhmfaaaSpN3
namespace Go.Proofs.Ytpckbmebdhmfaaa
open Go.RowKit
theorem RowTo.open {w w' : World} {v v' : Value} {l' : List (Nat × Nat)} (h : RowTo w w' v v' l') : w'.ownsRow 0 26 2 v' l'.length (pcs l') ∧ Keep v.ownBlock.toList w w' ∧ ∀ g, v'.ownBlock = some g → v.ownBlock = some g ∨ w.heap.size ≤ g := h
section
variable (w : World)
set_option maxRecDepth 100000
set_option maxHeartbeats 4000000
theorem put_any {S : List Nat} {s m : Nat} {l : List (Nat × Nat)} (h : SpS w S s m l) (bv : Value) (by_ : List (Nat × Nat)) (hb : w.ownsRow 0 26 2 bv by_.length (pcs by_)) (hne : ∀ g, bv.ownBlock = some g → g ∉ S) (i j : Nat) (hij : i ≤ j) (hj : j ≤ l.length) (hn : l.length ≤ 1000000) (hm : by_.length ≤ 1000000) (hN : Span.Nrm (l.take i ++ by_ ++ l.drop j)) (hP : P64 by_) :
    Calls Try.prog 30 #[.pointer (some ⟨s, 0, none⟩), .int .i64 (i : Nat), .int .i64 (j : Nat), bv] w fun e w' => ∃ c S', e = .returned (.int .i64 c) ∧
      (((l.take i ++ by_ ++ l.drop j).length ≤ m ∧ c = 0 ∧ SpS w' S' s m (l.take i ++ by_ ++ l.drop j)) ∨ (m < (l.take i ++ by_ ++ l.drop j).length ∧ c = 7 ∧ SpS w' S' s m l)) ∧ (∀ x ∈ S', x ∈ S ∨ w.heap.size ≤ x) ∧ Keep S w w' := by
  have HS := Lib.hid h
  obtain ⟨lim, v, h1, h2, h3, h4, rfl, h6, h7, h8⟩ := h
  obtain ⟨R, hR⟩ : ∃ R, R = l.take i ++ by_ ++ l.drop j := ⟨_, rfl⟩
  have hlen : R.length = l.length - (j - i) + by_.length := by rw [hR, List.length_append, List.length_append, List.length_take_of_le (by omega), List.length_drop]; omega
  have hPR : P64 R := by
    rw [hR]
    exact P64.append (P64.append (fun x hx => h7 x (List.mem_of_mem_take hx)) hP) (fun x hx => h7 x (List.mem_of_mem_drop hx))
  rw [← hR] at hN ⊢
  have MO := fun k => Lib.hid (most_any (w.drewN k) (h1.drewN k) h2)
  have RP : Hid (∀ W, Keep [] w W → Calls Try.prog 31 #[v, .int .i64 (i : Nat), .int .i64 (j : Nat), bv] W fun e w' => ∃ v', e = .returned v' ∧ RowTo W w' v v' R) := Lib.hid (fun W hk => by
    rw [hR]
    exact replace_rows W v bv l by_ i j (own_keep0 h4 hk) (own_keep0 hb hk) (fun g hg hv => hne g hg (by simp [hv])) hij hj hn hm)
  have hsne : v.ownBlock ≠ some s := own_ne_blk h4 h1 (by decide)
  have HSN := Lib.hid hsne
  have HB := Lib.hid h1
  have HNR := Lib.hid hN
  have HPR := Lib.hid hPR
  have HLE := Lib.hid hlen
  have bl := wf_i64 h2
  have H2 := Lib.hid h2
  have H3 := Lib.hid h3
  obtain ⟨n, hnl⟩ : ∃ n, n = l.length := ⟨_, rfl⟩
  obtain ⟨k, hkl⟩ : ∃ k, k = by_.length := ⟨_, rfl⟩
  rw [← hnl, ← hkl] at hlen
  obtain ⟨q, hq⟩ : ∃ q, q = R.length := ⟨_, rfl⟩
  rw [← hq] at hlen ⊢
  obtain ⟨A, c, rfl⟩ := own_slice h4
  obtain ⟨Ab, cb, rfl⟩ := own_slice hb
  rw [← hnl] at h1 hj hn RP HB HSN h8
  rw [← hkl] at hm RP
  rw [← hnl, ← hkl]
  have HQ := Lib.hid hq
  have c1 : w.cell? ⟨s, 1, none⟩ = some (.slice A n c) := h1.cell 1
  have ew1 : IntKind.i64.wrap ((j : Int) - (i : Int)) = (j : Int) - (i : Int) := by rw [IntKind.wrap_i64]; omega
  have ew2 : IntKind.i64.wrap ((n : Int) - ((j : Int) - (i : Int))) = (n : Int) - ((j : Int) - (i : Int)) := by rw [IntKind.wrap_i64]; omega
  have ew3 : IntKind.i64.wrap ((n : Int) - ((j : Int) - (i : Int)) + (k : Int)) = (q : Int) := by rw [IntKind.wrap_i64]; omega
  have hmz : ((m : Nat) : Int) = max lim 1 := by rw [h3]; omega
  by_cases hfit : q ≤ m
  · have hcmp : ¬ (max lim 1 < (q : Int)) := by omega
    clear h1 h3 h4 h6 h7 hb hne hR hlen hPR hN hsne hnl hkl hq hmz h2 hP
    go_enter Try.func30, Try.ntmps30
    go_upto_region 1 with fail
    go_quiet ((go_at_call 32; exact Calls.quiet_of_same (MO _).out))
    obtain ⟨w0, hw0⟩ : ∃ w0, w0 = w.drewN nq := ⟨_, rfl⟩
    have HK0 : Hid (Keep [] w w0) := Lib.hid (by rw [hw0]; exact (Keep.refl _ _).drewN _)
    rw [← hw0]
    have c10 : w0.cell? ⟨s, 1, none⟩ = some (.slice A n c) := (HB.out.keep HK0.out (by simp)).cell 1
    clear hw0 c1
    go_wp2_with (go_at_call 31; with_reducible refine (RP.out _ HK0.out).mono ?_; rintro e w1 ⟨v', rfl, hrow⟩; obtain ⟨ho, hk1, hg1⟩ := RowTo.open hrow; have HO := Lib.hid ho; have HK1 := Lib.hid hk1; have HG1 := Lib.hid hg1; obtain ⟨A', c', rfl⟩ := own_slice ho; have HB1 := Lib.hid ((HB.out.keep HK0.out (by simp)).keep hk1 (fun hm => absurd (show (Value.slice A n c).ownBlock = some s by simpa using hm) HSN.out)); have c11 := HB1.out.cell 1; have f11 := HB1.out.frozen 1; simp at c11; clear ho hk1 hg1 hrow)
    go_ret
    have hk1' : Keep [s] w1 (w1.setCell ⟨s, 1, none⟩ (.slice A' R.length c')) := (Keep.refl _ _).setCell (p := ⟨s, 1, none⟩) (.inl (by simp)) _
    have hns : ∀ g, (Value.slice A' R.length c').ownBlock = some g → g ≠ s := fun g hg h => by
      rcases HG1.out g hg with h' | h'
      · exact absurd (show (Value.slice A n c).ownBlock = some s by rw [h', h]) HSN.out
      · have := (HB.out.keep HK0.out (by simp)).lt; omega
    refine ⟨0, s :: (Value.slice A' R.length c').ownBlock.toList, rfl, .inl ⟨hfit, rfl, lim, _, by simpa using HB1.out.set_ 1 (.slice A' R.length c'), H2.out, H3.out, own_keep HO.out hk1' (fun g hg => by simpa using hns g hg), rfl, HNR.out, HPR.out, by rw [← HQ.out]; exact hfit⟩, fun x hx => ?_, ?_⟩
    · rcases List.mem_cons.1 hx with rfl | hx
      · exact .inl (by simp)
      · rcases HG1.out x (by simpa using hx) with h' | h'
        · exact .inl (by simp [h'])
        · exact .inr (Nat.le_trans HK0.out.size h')
    · exact ((HK0.out.more0 (S := s :: (Value.slice A n c).ownBlock.toList)).trans' HK1.out (fun g hg => .inl (List.mem_cons_of_mem _ hg))).trans' hk1' (fun g hg => .inl (by rw [List.mem_singleton.1 hg]; simp))
  · have hcmp : max lim 1 < (q : Int) := by omega
    have hS := fun k => HS.out.keep (T := []) ((Keep.refl [] w).drewN k) (by simp)
    have HSS : Hid (∀ k, SpS (w.drewN k) (s :: (Value.slice A n c).ownBlock.toList) s m l) := Lib.hid (by rw [hnl]; exact hS)
    clear h1 h3 h4 h6 h7 hb hne hR hlen hPR hN hsne hnl hkl hq hmz h2 hP hS
    go_enter Try.func30, Try.ntmps30
    go_upto_region 1 with fail
    go_quiet ((go_at_call 32; exact Calls.quiet_of_same (MO _).out))
    go_wp2_with fail
    go_ret
    exact ⟨7, _, rfl, .inr ⟨by omega, rfl, HSS.out _⟩, fun x hx => .inl hx, ((Keep.refl _ _).drewN _)⟩
end
end Go.Proofs.Ytpckbmebdhmfaaa
