/-
  The landed span's slices.DeleteFunc: the ranges that are empty, taken out of a row.
-/
import Derived.Test.YtpckbmebdhmfaaaSpK1
namespace Go.Proofs.Ytpckbmebdhmfaaa
open Go.RowKit

theorem Blk.putPair {w : World} {g t : Nat} {C : List Value} (h : Blk w g t C.toArray) (o : Nat) (ho : o + 2 ≤ C.length) (x : Nat × Nat) : Blk ((w.setCell ⟨g, o, none⟩ (.int .u64 (x.1 : Nat))).setCell ⟨g, o + 1, none⟩ (.int .u64 (x.2 : Nat))) g t (splice C o (pc x)).toArray := by
  have := (h.set_ o (.int .u64 (x.1 : Nat))).set_ (o + 1) (.int .u64 (x.2 : Nat))
  have e : ((C.toArray.setIfInBounds o (.int .u64 (x.1 : Nat))).setIfInBounds (o + 1) (.int .u64 (x.2 : Nat))) = (splice C o (pc x)).toArray := by
    apply Array.toList_inj.1
    simp only [List.setIfInBounds_toArray]
    unfold splice pc
    apply List.ext_getElem?
    intro j
    simp only [List.getElem?_set, List.getElem?_append, List.getElem?_take, List.length_take, List.length_set, List.getElem?_drop, List.length_cons, List.length_nil]
    rcases Nat.lt_trichotomy j o with h1 | h1 | h1
    · have a1 : ¬ (o + 1 = j) := by omega
      have a2 : ¬ (o = j) := by omega
      have a3 : j < min o C.length := by omega
      simp [a1, a2, a3, h1]
    · subst h1
      have a1 : ¬ (j + 1 = j) := by omega
      have a3 : ¬ (j < min j C.length) := by omega
      have a4 : j < C.length := by omega
      have a5 : j - min j C.length = 0 := by omega
      simp [a1, a3, a4, a5]
    · by_cases h2 : j = o + 1
      · subst h2
        have a3 : ¬ (o + 1 < min o C.length) := by omega
        have a4 : o + 1 < C.length := by omega
        have a5 : o + 1 - min o C.length = 1 := by omega
        simp [a3, a4, a5]
      · have a1 : ¬ (o + 1 = j) := by omega
        have a2 : ¬ (o = j) := by omega
        have a3 : ¬ (j < min o C.length) := by omega
        have a5 : ¬ (j - min o C.length < 0 + 1 + 1) := by omega
        simp only [a1, a2, a3, a5, if_false]
        congr 1
        omega
  rw [e] at this
  exact this

section
variable (w : World)
set_option maxRecDepth 100000
set_option maxHeartbeats 4000000
/-- Is it empty? -/
abbrev emp (x : Nat × Nat) : Bool := decide (x.2 ≤ x.1)
theorem index_any (l : List (Nat × Nat)) (v : Value) (hv : S2 w v l) (hn : l.length ≤ 1000000) :
    Calls Try.prog 47 #[v, .func (.func 28) #[] #[]] w fun e w' => e = .returned (.int .i64 (if Span.fi emp l < l.length then ((Span.fi emp l : Nat) : Int) else -1)) ∧ Keep [] w w' := by
  have HL := Lib.hid hv
  obtain ⟨A, c, rfl, hc1, hc2, -, -⟩ := hv
  obtain ⟨n, hnl⟩ : ∃ n, n = l.length := ⟨_, rfl⟩
  have HN := Lib.hid hnl
  rw [← hnl] at HL hc1 hn ⊢
  obtain ⟨z, hz⟩ : ∃ z, z = if Span.fi emp l < n then ((Span.fi emp l : Nat) : Int) else -1 := ⟨_, rfl⟩
  have HZ := Lib.hid hz
  rw [← hz]
  clear hnl hz
  go_enter Try.func47, Try.ntmps47
  go_wp2_with fail
  go_loopw [8] (fun s8 wr => ∃ i : Nat, i ≤ n ∧ s8 = .int .i64 i ∧ Keep [] w wr ∧ ∀ k, k < i → emp (l.getD k (0, 0)) = false) (fun s8 _ => n - (intOf s8).toNat)
  case atStart => exact ⟨0, by omega, rfl, Keep.refl _ _, fun k hk => absurd hk (Nat.not_lt_zero _)⟩
  case round =>
    obtain ⟨i, hi, rfl, hk, hlo⟩ := hrel
    have HK := Lib.hid hk
    have HLO := Lib.hid hlo
    have HLr := Lib.hid (HL.out.keep0 hk)
    clear hk hlo
    by_cases hlt : i < n
    · have hnl := HN.out
      have hx := HLr.out.p64.getD i
      obtain ⟨b, off, c', he, -, -, hblt, hcell⟩ := HLr.out.cells (by omega)
      simp only [Value.slice.injEq] at he
      obtain ⟨rfl, -, rfl⟩ := he
      obtain ⟨x1, x2⟩ := hcell i (by omega)
      obtain ⟨x, hxx⟩ : ∃ x, x = l.getD i (0, 0) := ⟨_, rfl⟩
      rw [← hxx] at hx x1 x2
      have HX := Lib.hid hxx
      have EM : Hid (∀ W, Calls Try.prog 28 #[.agg #[.int .u64 (x.1 : Nat), .int .u64 (x.2 : Nat)]] W fun e W' => e = .returned (.bool (emp x)) ∧ Keep [] W W') := fun W => empty_any W x hx.1 hx.2
      obtain ⟨xa, xb⟩ := x
      simp only at x1 x2
      have bi : (0 : Int) ≤ i ∧ (i : Int) < n := ⟨by omega, by omega⟩
      clear hcell hxx hnl hx
      cases hq : emp (xa, xb) with
      | true =>
        rw [hq] at EM
        have HF := Lib.hid (show Span.fi emp l = i from Span.fi_uniq emp l i (by have := HN.out; omega) HLO.out (fun _ => by rw [← HX.out]; exact hq))
        go_wp2_with (go_at_call 28; with_reducible refine (EM.out _).mono ?_; rintro e w1 ⟨rfl, hk1⟩; have HK1 := Lib.hid (HK.out.trans hk1); clear hk1)
        go_ret
        exact ⟨by rw [HZ.out, HF.out, if_pos hlt]; rfl, HK1.out⟩
      | false =>
        rw [hq] at EM
        go_wp2_with (go_at_call 28; with_reducible refine (EM.out _).mono ?_; rintro e w1 ⟨rfl, hk1⟩; have HK1 := Lib.hid (HK.out.trans hk1); clear hk1)
        refine ⟨⟨i + 1, by omega, by go_num, HK1.out, fun k hk => ?_⟩, by simp only [intOf]; omega⟩
        rcases Nat.lt_or_eq_of_le (Nat.le_of_lt_succ hk) with h | rfl
        · exact HLO.out k h
        · rw [← HX.out]; exact hq
    · have hnl : ¬ (i : Int) < (n : Int) := by omega
      have HF := Lib.hid (show ¬ Span.fi emp l < n from fun h => by
        have h1 := Span.fi_hit emp l (by have := HN.out; omega)
        rw [HLO.out _ (by omega)] at h1
        cases h1)
      go_wp2_with fail
      go_ret
      exact ⟨by rw [HZ.out, if_neg HF.out]; rfl, HK.out⟩
theorem filter_take {l : List (Nat × Nat)} {p : Nat × Nat → Bool} {j : Nat} (h : j < l.length) : (l.take (j + 1)).filter p = (l.take j).filter p ++ if p (l.getD j (0, 0)) = true then [l.getD j (0, 0)] else [] := by
  rw [List.take_add_one, List.getElem?_eq_getElem h, List.filter_append, List.getD_eq_getElem?_getD, List.getElem?_eq_getElem h]
  simp [List.filter_cons]
theorem cells_of {C C' : List Value} {l : List (Nat × Nat)} {n j : Nat} (h : C'.drop (j * 2) = C.drop (j * 2)) (ht : C.take (n * 2) = pcs l) (hn : n = l.length) (hj : j < n) :
    C'[j * 2]? = some (.int .u64 ((l.getD j (0, 0)).1 : Nat)) ∧ C'[j * 2 + 1]? = some (.int .u64 ((l.getD j (0, 0)).2 : Nat)) := by
  obtain ⟨g1, g2⟩ := pcs_get l j (by omega)
  rw [← ht, List.getElem?_take_of_lt (by omega)] at g1 g2
  have e : ∀ r, C'[j * 2 + r]? = C[j * 2 + r]? := fun r => by rw [← List.getElem?_drop, h, List.getElem?_drop]
  exact ⟨by rw [← Nat.add_zero (j * 2), e, Nat.add_zero, Nat.mul_comm]; exact g1, by rw [e, Nat.mul_comm]; exact g2⟩
theorem blk_some {w : World} {g t : Nat} {C : List Value} (h : Blk w g t C.toArray) (k : Nat) (hk : k < C.length) : ∃ u, w.cell? ⟨g, k, none⟩ = some u := by
  rw [h.cell]
  exact ⟨C[k], by simp [hk]⟩
theorem delfunc_any (g c : Nat) (C : List Value) (l : List (Nat × Nat)) (hB : Blk w g 26 C.toArray) (hC : C.length = c * 2) (hnc : l.length ≤ c) (hc63 : c ≤ 9223372036854775807) (ht : C.take (l.length * 2) = pcs l) (hp : P64 l) (hn : l.length ≤ 1000000) :
    Calls Try.prog 37 #[.slice (some ⟨g, 0, none⟩) l.length c, .func (.func 28) #[] #[]] w fun e w' => ∃ v', e = .returned v' ∧ RowTo w w' (.slice (some ⟨g, 0, none⟩) l.length c) v' (l.filter fun x => !emp x) := by
  have IX := Lib.hid (index_any w l _ (S2.of_own (own_row hB hC hnc hc63 ht) hp) hn)
  obtain ⟨n, hnl⟩ : ∃ n, n = l.length := ⟨_, rfl⟩
  have HN := Lib.hid hnl
  have HC := Lib.hid hC
  have HC63 := Lib.hid hc63
  have HT := Lib.hid ht
  have HB := Lib.hid hB
  obtain ⟨f, hf⟩ : ∃ f, f = Span.fi emp l := ⟨_, rfl⟩
  rw [← hnl, ← hf] at IX
  rw [← hnl] at hnc hn HT ⊢
  obtain ⟨R, hR⟩ : ∃ R, R = l.filter fun x => !emp x := ⟨_, rfl⟩
  have HRD := Lib.hid hR
  rw [← hR]
  have hle := Span.fi_le emp l
  rw [← hf] at hle
  have HLO := Lib.hid (show ∀ k, k < f → emp (l.getD k (0, 0)) = false from fun k hk => Span.fi_miss emp l k (by omega))
  have hpre : f ≤ l.length → (l.take f).filter (fun x => !emp x) = l.take f := fun _ => by
    rw [List.filter_eq_self]
    intro x hx
    obtain ⟨k, hk, rfl⟩ := List.getElem_of_mem hx
    have := HLO.out k (by simp at hk; omega)
    rw [List.getD_eq_getElem?_getD, List.getElem?_eq_getElem (by simp at hk; omega)] at this
    simp at this ⊢
    omega
  by_cases hfn : f < n
  · rw [if_pos hfn] at IX
    have HE := Lib.hid (show emp (l.getD f (0, 0)) = true by rw [hf]; exact Span.fi_hit emp l (by omega))
    have HP := Lib.hid (hpre (by omega))
    have hf1 : ¬ ((f : Int) = -1) := by omega
    have hf2 : ((f : Int) == -1) = false := beq_eq_false_iff_ne.2 hf1
    clear hnl hf hle hpre hB hC ht hc63 hR
    go_enter Try.func37, Try.ntmps37
    go_wp2_with (go_at_call 47; with_reducible refine IX.out.mono ?_; rintro e w1 ⟨rfl, hk1⟩; have HK1 := Lib.hid hk1; clear hk1)
    have HHC := HC.out
    go_loopw [5, 6, 7] (fun s5 s6 s7 wr => ∃ (i j : Nat) (C' : List Value), i < j ∧ j ≤ n ∧ s5 = .int .i64 i ∧ s6 = .int .i64 j ∧ Blk wr g 26 C'.toArray ∧ C'.length = c * 2 ∧ C'.take (i * 2) = pcs ((l.take j).filter fun x => !emp x) ∧ C'.drop (j * 2) = C.drop (j * 2) ∧ Keep [g] w wr ∧ ((l.take j).filter fun x => !emp x).length = i) (fun _ s6 _ _ => n - (intOf s6).toNat)
    case atStart =>
      have hft := filter_take (p := fun x => !emp x) (l := l) (j := f) (by have := HN.out; omega)
      rw [HE.out] at hft
      simp only [Bool.not_true, Bool.false_eq_true, if_false, List.append_nil] at hft
      rw [HP.out] at hft
      refine ⟨f, f + 1, C, by omega, by omega, rfl, by go_num, HB.out.keep HK1.out (by simp), HC.out, ?_, rfl, HK1.out.more0, ?_⟩
      · rw [hft, ← pcs_take, ← HT.out, List.take_take, Nat.min_eq_left (by omega)]
      · rw [hft, List.length_take_of_le (by have := HN.out; omega)]
    case round =>
      obtain ⟨i, j, C', hij, hj, rfl, rfl, hB, hC, ht, hd, hk, hlen⟩ := hrel
      have HCl := Lib.hid hC
      have HTk := Lib.hid ht
      have HDr := Lib.hid hd
      have HK := Lib.hid hk
      have HBr := Lib.hid hB
      have HLen := Lib.hid hlen
      by_cases hlt : j < n
      · have hnl := HN.out
        obtain ⟨y1, y2⟩ := cells_of hd HT.out hnl hlt
        have hx := hp.getD j
        have hft := filter_take (p := fun x => !emp x) (l := l) (j := j) (by omega)
        obtain ⟨x, hxx⟩ : ∃ x, x = l.getD j (0, 0) := ⟨_, rfl⟩
        rw [← hxx] at y1 y2 hx hft
        have x1 : wr.cell? ⟨g, j * 2, none⟩ = some (.int .u64 (x.1 : Nat)) := by rw [hB.cell]; simpa using y1
        have x2 : wr.cell? ⟨g, j * 2 + 1, none⟩ = some (.int .u64 (x.2 : Nat)) := by rw [hB.cell]; simpa using y2
        have HFT := Lib.hid hft
        have EM : Hid (∀ W, Calls Try.prog 28 #[.agg #[.int .u64 (x.1 : Nat), .int .u64 (x.2 : Nat)]] W fun e W' => e = .returned (.bool (emp x)) ∧ Keep [] W W') := fun W => empty_any W x hx.1 hx.2
        have bi : (0 : Int) ≤ j ∧ (j : Int) < n ∧ (0 : Int) ≤ i ∧ (i : Int) < j := ⟨by omega, by omega, by omega, by omega⟩
        have hi2 : i * 2 + 1 < C'.length := by omega
        have HI2 := Lib.hid hi2
        clear y1 y2 hft hxx hnl hB hC ht hd hk hlen hi2
        cases hq : emp x with
        | true =>
          rw [hq] at EM HFT
          obtain ⟨xa, xb⟩ := x
          simp only at x1 x2 EM
          go_wp2_with (go_at_call 28; with_reducible refine (EM.out _).mono ?_; rintro e w2 ⟨rfl, hk2⟩; have HK2 := Lib.hid (((Keep.refl [] wr).alloc _).trans hk2); clear hk2)
          have e1 := HFT.out
          simp only [Bool.not_true, Bool.false_eq_true, if_false, List.append_nil] at e1
          refine ⟨⟨i, j + 1, C', by omega, by omega, rfl, by go_num, HBr.out.keep HK2.out (by simp), HCl.out, ?_, ?_, HK.out.trans0 HK2.out, ?_⟩, by simp only [intOf]; omega⟩
          · rw [e1]; exact HTk.out
          · have := congrArg (List.drop 2) HDr.out
            rw [List.drop_drop, List.drop_drop] at this
            rw [show (j + 1) * 2 = j * 2 + 2 by omega]
            exact this
          · rw [e1]; exact HLen.out
        | false =>
          rw [hq] at EM HFT
          obtain ⟨xa, xb⟩ := x
          simp only at x1 x2 EM
          go_wp2_with (go_at_call 28; with_reducible refine (EM.out _).mono ?_; rintro e w2 ⟨rfl, hk2⟩; have HK2 := Lib.hid (((Keep.refl [] wr).alloc _).trans hk2); have HB2 := Lib.hid (HBr.out.keep HK2.out (by simp)); obtain ⟨u1, hu1⟩ := blk_some HB2.out (i * 2) (by have := HI2.out; omega); obtain ⟨u2, hu2⟩ := blk_some HB2.out (i * 2 + 1) HI2.out; have f1 := HB2.out.frozen (i * 2); have f2 := HB2.out.frozen (i * 2 + 1); have hN := (Blk.new wr 26 #[.int .u64 (xa : Nat), .int .u64 (xb : Nat)]).keep hk2 (by simp); have n0 := hN.cell 0; have n1 := hN.cell 1; simp at n0 n1; clear hk2 hN)
          have e1 := HFT.out
          simp only [Bool.not_false, if_true] at e1
          have hi2 := HI2.out
          have hCl := HCl.out
          have hls : (splice C' (i * 2) (pc (xa, xb))).length = c * 2 := by rw [splice_len (by simp only [pc, List.length_cons, List.length_nil]; omega)]; exact hCl
          refine ⟨⟨i + 1, j + 1, splice C' (i * 2) (pc (xa, xb)), by omega, by omega, by go_num, by go_num, HB2.out.putPair (i * 2) (by omega) (xa, xb), hls, ?_, ?_, ((HK.out.trans0 HK2.out).setCell (p := ⟨g, i * 2, none⟩) (.inl (by simp)) _).setCell (p := ⟨g, i * 2 + 1, none⟩) (.inl (by simp)) _, ?_⟩, by simp only [intOf]; omega⟩
          · rw [splice_over (N := (i + 1) * 2) (by simp only [pc, List.length_cons, List.length_nil]; omega) (by omega), e1, pcs_append, pcs_one, HTk.out]
          · rw [drop_splice (by simp only [pc, List.length_cons, List.length_nil]; omega) (by simp only [pc, List.length_cons, List.length_nil]; omega)]
            have := congrArg (List.drop 2) HDr.out
            rw [List.drop_drop, List.drop_drop] at this
            rw [show (j + 1) * 2 = j * 2 + 2 by omega]
            exact this
          · rw [e1, List.length_append, HLen.out]; rfl
      · obtain rfl : j = n := by omega
        have hnl : ¬ (j : Int) < (j : Int) := by omega
        have F1 := run_fromP setN rng2 (some ⟨g, 0, none⟩) j c i (by omega)
        rw [at2_some (by omega), Nat.zero_add] at F1
        have F2 := run_upto2 setN rng2 (some ⟨g, 0, none⟩) (fun a ha => by cases ha; rfl) j c i (by omega)
        obtain ⟨w2, Z, hr2, hZ, hB2, hk2, hs2⟩ := run_cl (P := Try.prog) wr setN rngZ g (i * 2) (j - i) (c - i) (some ⟨g, i * 2, none⟩) _ _ hB (fun _ => rfl) (by rw [hC]; omega)
        have HB2 := Lib.hid hB2
        have HK2 := Lib.hid (hk.trans hk2)
        have hR2 : (l.take j).filter (fun x => !emp x) = R := by rw [List.take_of_length_le (by have := HN.out; omega), HRD.out]
        rw [hR2] at hlen ht
        have HLR := Lib.hid hlen
        have HTT : Hid (List.take (i * 2) (splice C' (i * 2) Z) = pcs R) := Lib.hid (by rw [take_splice (by rw [hC, hZ]; omega) (Nat.le_refl _)]; exact ht)
        have HLL : Hid ((splice C' (i * 2) Z).length = c * 2) := Lib.hid (by rw [splice_len (by rw [hC, hZ]; omega), hC])
        have bi : (0 : Int) ≤ i ∧ (i : Int) < j := ⟨by omega, by omega⟩
        clear hB hC ht hd hk hlen hB2 hk2 hs2 hR2 hZ
        go_wp2_with (at_builtin; refine wl_cl rfl _ _ rfl _ rfl (hr2 _) ?_)
        go_ret
        refine ⟨_, rfl, ?_, HK2.out, fun x hx => .inl hx⟩
        have hcc : j ≤ c := hnc
        have := own_row (l := R) HB2.out HLL.out (by rw [HLR.out]; omega) HC63.out (by rw [HLR.out]; exact HTT.out)
        rw [HLR.out] at this ⊢
        exact this
  · have hfe : f = n := by omega
    rw [if_neg hfn] at IX
    have HR := Lib.hid (show R = l by rw [hR]; have := hpre (by omega); rwa [hfe, hnl, List.take_length] at this)
    clear hle hpre hf hfe hnl hB hC ht hc63 hR
    go_enter Try.func37, Try.ntmps37
    go_wp2_with (go_at_call 47; with_reducible refine IX.out.mono ?_; rintro e w1 ⟨rfl, hk1⟩; have HK1 := Lib.hid hk1; clear hk1)
    go_ret
    refine ⟨_, rfl, ?_, HK1.out.more0, fun x hx => .inl hx⟩
    have := own_keep0 (own_row (l := l) HB.out HC.out (by have := HN.out; omega) HC63.out (by rw [← HN.out]; exact HT.out)) HK1.out
    rw [HR.out]
    rw [← HN.out] at this ⊢
    exact this
end
end Go.Proofs.Ytpckbmebdhmfaaa
