/-
  The law VintBytes.
-/
import Derived.Test.YtaifocfnkhgpoaaDoorRWide
import Derived.Test.YtaifocfnkhgpoaaDoorAwake
namespace Go.Proofs.YtaifocfnkhgpoaaDoor
open Go.RowKit

theorem tk_enc (n : Int) (s : Nat) (r : List Int) (hf : Fits n s) (h0 : 0 ≤ n) : tkN (enc n s ++ r) = n ∧ tkS (enc n s ++ r) = s ∧ tkE (enc n s ++ r) = 0 := by
  obtain ⟨_, _, hn⟩ := fits_of hf h0
  have hs : s = 1 ∨ s = 2 ∨ s = 4 ∨ s = 8 := by have := hf.1; omega
  obtain ⟨k, rfl⟩ : ∃ k, s = k + 1 := ⟨s - 1, by omega⟩
  have hp := pow_pos' k
  have e0 : (2 : Int) ^ (8 * (k + 1) - 2) = 64 * 256 ^ k := by
    rw [show 8 * (k + 1) - 2 = 6 + 8 * k by omega, Int.pow_add, Int.pow_mul]; rfl
  have ht : 0 ≤ tag (k + 1) ∧ tag (k + 1) ≤ 3 ∧ 2 ^ (tag (k + 1)).toNat = k + 1 := by rcases hs with h | h | h | h <;> rw [h] <;> decide
  have hq0 : 0 ≤ n / 256 ^ k := Int.ediv_nonneg h0 (Int.le_of_lt hp)
  have hq : n / 256 ^ k < 64 := Int.ediv_lt_of_lt_mul hp (by rw [e0] at hn; exact hn)
  have hh : (n + tag (k + 1) * 2 ^ (8 * (k + 1) - 2)) / 256 ^ k % 256 = n / 256 ^ k + tag (k + 1) * 64 := by
    rw [e0, ← Int.mul_assoc, Int.add_mul_ediv_right _ _ (Int.ne_of_gt hp)]
    omega
  have he : enc n (k + 1) = (n / 256 ^ k + tag (k + 1) * 64) :: bb n k := by
    simp only [enc, bb]
    rw [hh, e0, ← Int.mul_assoc, bb_add n _ k k (Nat.le_refl _)]
  have hd : (n / 256 ^ k + tag (k + 1) * 64) / 64 = tag (k + 1) := by omega
  have hm : (n / 256 ^ k + tag (k + 1) * 64) % 64 = n / 256 ^ k := by omega
  have hS : tkS (enc n (k + 1) ++ r) = k + 1 := by
    rw [he]
    simp only [tkS, List.cons_append, hd, ht.2.2]
    rw [if_neg (by simp [bb_length])]
  refine ⟨?_, hS, by unfold tkE; rw [hS, if_neg (by omega)]⟩
  rw [he]
  simp only [tkN, List.cons_append, hd, hm, ht.2.2]
  rw [if_neg (by simp [bb_length]), Nat.add_sub_cancel, List.take_append_of_le_length (by rw [bb_length]; exact Nat.le_refl _), List.take_of_length_le (by rw [bb_length]; exact Nat.le_refl _), be_bb]
  have := Int.mul_ediv_add_emod n (256 ^ k)
  rw [Int.mul_comm] at this
  exact this
theorem enc_wf (n : Int) (s : Nat) : ∀ x ∈ enc n s, (Lit.int .u8 x).wf = true := fun x hx => by
  have := bb_wf _ _ x hx
  exact u8_wf this.1 this.2
theorem enc_length (n : Int) (s : Nat) : (enc n s).length = s := bb_length _ _

set_option maxHeartbeats 400000 in
theorem rput_no (n : Int) (w : World) (hf : vlen n = 0) :
    Calls Tryd.prog 12 #[.int .u64 n] w fun e w' => e = .returned (.slice none 0 0) ∧ w = w' := by
  have L := Lib.hid (rlen_any n w)
  have W := Lib.hid (rwide_no n (vlen n) w (by simp [Fits, hf]))
  clear hf
  go_enter Tryd.func12, Tryd.ntmps12
  go_wp2_with (first
    | (go_at_call 10; with_reducible refine L.out.mono ?_; rintro e w' ⟨rfl, rfl⟩)
    | (go_at_call 14; with_reducible refine W.out.mono ?_; rintro e w' ⟨rfl, rfl⟩))
  go_ret
  exact ⟨rfl, rfl⟩
set_option maxHeartbeats 400000 in
theorem rput_yes (n : Int) (w : World) (hf : vlen n ≠ 0) (h0 : 0 ≤ n) (h64 : n ≤ 18446744073709551615) :
    Calls Tryd.prog 12 #[.int .u64 n] w fun e w' => ∃ v', e = .returned v' ∧ v'.ownBlock ≠ none ∧
      w'.ownsRow w.heap.size 5 1 v' (vlen n).toNat ((enc n (vlen n).toNat).map (Value.int .u8)) ∧ Keep [] w w' := by
  have L := Lib.hid (rlen_any n w)
  have hr := vlen_range n
  have hF := fits_least hf
  obtain ⟨s, hs⟩ : ∃ s : Nat, vlen n = s := ⟨(vlen n).toNat, by omega⟩
  rw [hs] at hF L
  have W := Lib.hid (rwide_yes n s w hF h0 h64)
  rw [hs, Int.toNat_natCast]
  clear hf hs hr hF h64
  go_enter Tryd.func12, Tryd.ntmps12
  go_wp2_with (first
    | (go_at_call 10; with_reducible refine L.out.mono ?_; rintro e w' ⟨rfl, rfl⟩)
    | (go_at_call 14; with_reducible refine W.out.mono ?_; rintro e w' ⟨v', rfl, hn, ho, hk⟩; have HO := Lib.hid ho; clear ho))
  go_ret
  exact ⟨v', rfl, hn, HO.out, hk⟩

/-- A slice of the call's own, written out. -/
theorem own_form {w : World} {base : Nat} {e : TypeId} {size n : Nat} {v : Value} {xs : List Value} (h : w.ownsRow base e size v n xs) (hn : v.ownBlock ≠ none) : ∃ g c, v = .slice (some ⟨g, 0, none⟩) n c := by
  rcases h.2 with ⟨rfl, _⟩ | ⟨g, cap, cur, rfl, _⟩
  · simp [Value.ownBlock] at hn
  · exact ⟨g, cap, rfl⟩

set_option maxRecDepth 100000 in
set_option maxHeartbeats 1000000 in
theorem vintBytes_none (n size : Int) (v2 v3 : Value) (l2 l3 : List Int) (w : World) (ht : Tabs w) (_hs : (Lit.int .i64 size).wf = true) (h2 : Sl .u8 w v2 l2) (h3 : Sl .u8 w v3 l3)
    (hl2 : l2.length ≤ 100) (hl3 : l3.length ≤ 100) (hv : vlen n = 0) :
    Calls Tryd.prog 3 #[.int .u64 n, .int .i64 size, v2, v3] w fun e w' => e = .returned (.bool true) ∧ Keep [] w w' := by
  have A := Lib.hid (awake_any w ht)
  have L1 := fun W => Lib.hid (len_any n W)
  have L2 := fun W => Lib.hid (rlen_any n W)
  have P1 := fun W => Lib.hid (put_no v2 n W hv)
  have P2 := fun W => Lib.hid (rput_no n W hv)
  have W1 := fun k W => Lib.hid (wide_no v2 n k W (by simp [Fits, hv]))
  have W2 := fun k W => Lib.hid (rwide_no n k W (by simp [Fits, hv]))
  generalize vlen n = k at *
  obtain ⟨A2, c2, rfl, _⟩ := h2
  obtain ⟨A3, c3, rfl, _⟩ := h3
  generalize l2.length = m2 at *
  generalize l3.length = m3 at *
  clear ht
  have hq := fun (w : World) (a : Option Addr) (n c : Nat) => Lib.run_eql_slice_nil (P := Tryd.prog) w 23 5 a n c 0 0 Tryd.underlying23
  go_enter Tryd.func3, Tryd.ntmps3
  go_wp2_with (first
    | (go_at_call 8; with_reducible refine A.out.mono ?_; rintro e w1 ⟨rfl, hk1⟩)
    | (go_at_call 9; with_reducible refine (L1 _).out.mono ?_; rintro e w' ⟨rfl, rfl⟩)
    | (go_at_call 10; with_reducible refine (L2 _).out.mono ?_; rintro e w' ⟨rfl, rfl⟩)
    | (go_at_call 11; with_reducible refine (P1 _).out.mono ?_; rintro e w' ⟨rfl, rfl⟩)
    | (go_at_call 12; with_reducible refine (P2 _).out.mono ?_; rintro e w' ⟨rfl, rfl⟩))
  obtain ⟨W, hW⟩ : ∃ W, W = w1.alloc (.cells #[.int .i64 size, .int .i64 1, .int .i64 2, .int .i64 4, .int .i64 8] 3) := ⟨_, rfl⟩
  obtain ⟨g, hg⟩ : ∃ g, g = w1.heap.size := ⟨_, rfl⟩
  have hB : Blk W g 3 #[.int .i64 size, .int .i64 1, .int .i64 2, .int .i64 4, .int .i64 8] := by rw [hW, hg]; exact Blk.new _ _ _
  have hK : Keep [] w W := by rw [hW]; exact hk1.alloc _
  rw [← hW, ← hg]
  have HB := Lib.hid hB
  clear hW hg hB hk1 A L1 L2 P1 P2
  go_loop [78] (fun i => ∃ j : Nat, j ≤ 5 ∧ i = .int .i64 j) (fun i => 5 - (intOf i).toNat)
  case atStart => exact ⟨0, by omega, rfl⟩
  case round =>
    obtain ⟨j, hj, rfl⟩ := hrel
    by_cases hlt : j < 5
    · obtain ⟨k, hcell⟩ : ∃ k, W.cell? ⟨g, j, none⟩ = some (.int .i64 k) := by
        rw [HB.out.cell]
        rcases (show j = 0 ∨ j = 1 ∨ j = 2 ∨ j = 3 ∨ j = 4 by omega) with rfl | rfl | rfl | rfl | rfl <;> exact ⟨_, rfl⟩
      go_wp2_with (first
        | (go_at_call 13; with_reducible refine (W1 _ _).out.mono ?_; rintro e w' ⟨rfl, rfl⟩)
        | (go_at_call 14; with_reducible refine (W2 _ _).out.mono ?_; rintro e w' ⟨rfl, rfl⟩))
      go_round
      case rel => exact ⟨j + 1, by omega, by go_num⟩
      case measure => simp [intOf]; omega
    · go_wp2
      go_ret
      exact ⟨rfl, hK⟩

set_option maxRecDepth 100000 in
set_option maxHeartbeats 4000000 in
theorem vintBytes_some (n size : Int) (v2 v3 : Value) (l2 l3 : List Int) (w : World) (ht : Tabs w) (hn : (Lit.int .u64 n).wf = true) (h2 : Sl .u8 w v2 l2) (h3 : Sl .u8 w v3 l3)
    (hl2 : l2.length ≤ 100) (hl3 : l3.length ≤ 100) (hv : vlen n ≠ 0) :
    Calls Tryd.prog 3 #[.int .u64 n, .int .i64 size, v2, v3] w fun e w' => e = .returned (.bool true) ∧ Keep [] w w' := by
  obtain ⟨n0, n1⟩ := wf_u64 hn
  have A := Lib.hid (awake_any w ht)
  have L1 := fun W => Lib.hid (len_any n W)
  have L2 := fun W => Lib.hid (rlen_any n W)
  have H2 := Lib.hid h2
  have H3 := Lib.hid h3
  have HT := Lib.hid ht
  have HV := Lib.hid hv
  obtain ⟨A2, c2, rfl, _⟩ := h2
  obtain ⟨A3, c3, rfl, _⟩ := h3
  clear ht hn
  have hq := fun (w : World) (a : Option Addr) (n c : Nat) => Lib.run_eql_slice_nil (P := Tryd.prog) w 23 5 a n c 0 0 Tryd.underlying23
  obtain ⟨vl, hvl⟩ : ∃ k, k = vlen n := ⟨_, rfl⟩
  have HVL := Lib.hid hvl
  rw [← hvl] at L1 L2 hv
  clear hvl hv
  go_enter Tryd.func3, Tryd.ntmps3
  go_wp2_with (first
    | (go_at_call 8; with_reducible refine A.out.mono ?_; rintro e w1 ⟨rfl, hk1⟩)
    | (go_at_call 9; with_reducible refine (L1 _).out.mono ?_; rintro e w' ⟨rfl, rfl⟩)
    | (go_at_call 10; with_reducible refine (L2 _).out.mono ?_; rintro e w' ⟨rfl, rfl⟩))
  refine (put_yes _ n l2 w1 (HT.out.keep hk1 (by simp)) HV.out n0 (H2.out.keep0 hk1) (by omega)).mono ?_
  rintro e wa ⟨va, rfl, hoa, hka⟩
  go_wp2_with fail
  refine (rput_yes n wa HV.out n0 n1).mono ?_
  rintro e wb ⟨vb, rfl, hnb, hob, hkb⟩
  obtain ⟨gb, cb, rfl⟩ := own_form hob hnb
  have hEw := enc_wf n (vlen n).toNat
  have hc1 : (convert 23 9 va).run Tryd.prog wb = .ok (.string (bstr l2 ++ bstr (enc n (vlen n).toNat))) wb := by
    rw [bstr_append]
    exact run_bytes_str ((Sl.of_own hoa (by
      intro x hx
      rcases List.mem_append.1 hx with h | h
      · exact H2.out.choose_spec.choose_spec.2.2.2.2 x h
      · exact hEw x h)).keep0 hkb) Tryd.underlying23 Tryd.underlying5 Tryd.underlying9
  have hc2 := run_bytes_str (P := Tryd.prog) (((H2.out.keep0 hk1).keep0 hka).keep0 hkb) Tryd.underlying23 Tryd.underlying5 Tryd.underlying9
  have hc3 := run_bytes_str (P := Tryd.prog) (Sl.of_own hob hEw) Tryd.underlying23 Tryd.underlying5 Tryd.underlying9
  have hz2 := bstr_size l2
  have hz3 := bstr_size (enc n (vlen n).toNat)
  rw [enc_length] at hz3
  have hvr := vlen_range n
  obtain ⟨s2, e2⟩ : ∃ s2, s2 = bstr l2 := ⟨_, rfl⟩
  obtain ⟨s3, e3⟩ : ∃ s3, s3 = bstr (enc n (vlen n).toNat) := ⟨_, rfl⟩
  rw [← e2] at hc1 hc2 hz2
  rw [← e3] at hc1 hc3 hz3
  have hsz : s2.size + s3.size ≤ 9223372036854775807 := by omega
  have HK := Lib.hid (((hk1.trans hka).trans hkb))
  have C1 := Lib.hid hc1
  have C2 := Lib.hid hc2
  have C3 := Lib.hid hc3
  clear e2 e3 hz2 hz3 hvr hc1 hc2 hc3 hoa hob hEw hk1 hka hkb hnb A L1 L2
  go_wp2_with (first
    | (with_reducible refine wl_conv rfl 23 9 (.tmp 52) rfl va _ rfl C1.out ?_)
    | (with_reducible refine wl_conv rfl 23 9 (.tmp 54) rfl (.slice A2 l2.length c2) _ rfl C2.out ?_)
    | (with_reducible refine wl_conv rfl 23 9 (.tmp 56) rfl (.slice (some ⟨gb, 0, none⟩) (vlen n).toNat cb) _ rfl C3.out ?_))
  obtain ⟨W, hW⟩ : ∃ W, W = wb.alloc (.cells #[.int .i64 size, .int .i64 1, .int .i64 2, .int .i64 4, .int .i64 8] 3) := ⟨_, rfl⟩
  obtain ⟨g, hg⟩ : ∃ g, g = wb.heap.size := ⟨_, rfl⟩
  have hB : Blk W g 3 #[.int .i64 size, .int .i64 1, .int .i64 2, .int .i64 4, .int .i64 8] := by rw [hW, hg]; exact Blk.new _ _ _
  have hKW : Keep [] w W := by rw [hW]; exact HK.out.alloc _
  rw [← hW, ← hg]
  have HB := Lib.hid hB
  have HKW := Lib.hid hKW
  clear hW hg hB hKW C1 C2 C3 HK hsz
  go_loopw [78] (fun i wr => ∃ j : Nat, j ≤ 5 ∧ i = .int .i64 j ∧ Keep [] W wr) (fun i _ => 5 - (intOf i).toNat)
  case atStart => exact ⟨0, by omega, rfl, Keep.refl _ _⟩
  case round =>
    obtain ⟨j, hj, rfl, hkr⟩ := hrel
    have HKR := Lib.hid (HKW.out.trans hkr)
    by_cases hlt : j < 5
    · obtain ⟨k, hcell⟩ : ∃ k, wr.cell? ⟨g, j, none⟩ = some (.int .i64 k) := by
        rw [(HB.out.keep hkr (by simp)).cell]
        rcases (show j = 0 ∨ j = 1 ∨ j = 2 ∨ j = 3 ∨ j = 4 by omega) with rfl | rfl | rfl | rfl | rfl <;> exact ⟨_, rfl⟩
      by_cases hf : Fits n k
      · obtain ⟨s, rfl⟩ : ∃ s : Nat, k = s := ⟨k.toNat, by have := hf.1; omega⟩
        have hs8 : s ≤ 8 := by have := hf.1; omega
        have HF := Lib.hid hf
        have HR := Lib.hid hkr
        clear hf hkr
        go_wp2_with fail
        refine (wide_yes _ n s l2 wr (HT.out.keep HKR.out (by simp)) HF.out n0 (H2.out.keep0 HKR.out) (by omega)).mono ?_
        rintro e wc ⟨vc, rfl, hoc, hkc⟩
        go_wp2_with fail
        refine (rwide_yes n s wc HF.out n0 n1).mono ?_
        rintro e wd ⟨vd, rfl, hnd, hod, hkd⟩
        obtain ⟨gd, cd, rfl⟩ := own_form hod hnd
        have hEw := enc_wf n s
        have hkwd := (HKR.out.trans hkc).trans hkd
        have hc1 : (convert 23 9 vc).run Tryd.prog wd = .ok (.string (bstr l2 ++ bstr (enc n s))) wd := by
          rw [bstr_append]
          exact run_bytes_str ((Sl.of_own hoc (by
            intro x hx
            rcases List.mem_append.1 hx with h | h
            · exact H2.out.choose_spec.choose_spec.2.2.2.2 x h
            · exact hEw x h)).keep0 hkd) Tryd.underlying23 Tryd.underlying5 Tryd.underlying9
        have hc2 := run_bytes_str (P := Tryd.prog) (H2.out.keep0 hkwd) Tryd.underlying23 Tryd.underlying5 Tryd.underlying9
        have hc3 := run_bytes_str (P := Tryd.prog) (Sl.of_own hod hEw) Tryd.underlying23 Tryd.underlying5 Tryd.underlying9
        have hz2 := bstr_size l2
        have hz3 := bstr_size (enc n s)
        rw [enc_length] at hz3
        obtain ⟨t2, e2⟩ : ∃ s2, s2 = bstr l2 := ⟨_, rfl⟩
        obtain ⟨t3, e3⟩ : ∃ s3, s3 = bstr (enc n s) := ⟨_, rfl⟩
        rw [← e2] at hc1 hc2 hz2
        rw [← e3] at hc1 hc3 hz3
        have hsz : t2.size + t3.size ≤ 9223372036854775807 := by omega
        have C1 := Lib.hid hc1
        have C2 := Lib.hid hc2
        have C3 := Lib.hid hc3
        have HOD := Lib.hid hod
        have HKD := Lib.hid hkwd
        have HR2 := Lib.hid ((HR.out.trans hkc).trans hkd)
        have hTk := tk_enc n s l3 HF.out n0
        obtain ⟨A3', c3', e3', hlc3, hcm3, hr3, hw3⟩ := H3.out.keep0 hkwd
        simp only [Value.slice.injEq, true_and] at e3'
        obtain ⟨rfl, rfl⟩ := e3'
        have hr3' := Lib.hid hr3
        have hT := fun v w' h => take_any v (enc n s ++ l3) w' h
        rw [hTk.1, hTk.2.1, hTk.2.2] at hT
        have HTK := Lib.hid hT
        have hwl : ∀ x ∈ enc n s ++ l3, (Lit.int .u8 x).wf = true := fun x hx => (List.mem_append.1 hx).elim (hEw x) (hw3 x)
        have HWL := Lib.hid hwl
        clear e2 e3 hz2 hz3 hc1 hc2 hc3 hoc hod hEw hkc hkd hnd hkwd hTk hT hwl hr3 hw3
        go_wp2_with (first
          | (with_reducible refine wl_conv rfl 23 9 (.tmp 101) rfl vc _ rfl C1.out ?_)
          | (with_reducible refine wl_conv rfl 23 9 (.tmp 103) rfl (.slice A2 l2.length c2) _ rfl C2.out ?_)
          | (with_reducible refine wl_conv rfl 23 9 (.tmp 105) rfl (.slice (some ⟨gd, 0, none⟩) s cd) _ rfl C3.out ?_)
          | (at_builtin; refine wl_append _ rfl (.tmp 127) (.tmp 128) _ rfl wd.heap.size 5 (.int .u8 0) 1 1 Tryd.underlying23 u8info rfl (by decide) (.slice (some ⟨wd.heap.size, 0, none⟩) 0 0) 0 [] rfl (own_of_blk (Blk.new _ _ _) rfl (Nat.le_refl _) (by omega) rfl) (some ⟨gd, 0, none⟩) s cd ((enc n s).map (Value.int .u8)) rfl ?a2 ?a3 (ints_one _ _) ?a4 ?a5 ?a6 ?_; rotate_right; intro v5 w5 ho5 hk5 hat5; have HO5 := Lib.hid ho5; clear ho5)
          | (at_builtin; refine wl_append _ rfl (.tmp 129) (.tmp 130) _ rfl wd.heap.size 5 (.int .u8 0) 1 1 Tryd.underlying23 u8info rfl (by decide) v5 (0 + s) _ rfl HO5.out A3 l3.length c3 (l3.map (Value.int .u8)) rfl ?b2 ?b3 (ints_one _ _) ?b4 ?b5 ?b6 ?_; rotate_right; intro v6 w6 ho6 hk6 hat6; have HO6 := Lib.hid ho6; clear ho6)
          | (go_at_call 15; refine (HTK.out v6 w6 (Sl.of_own (by simpa using HO6.out) HWL.out)).mono ?_; rintro e w' ⟨rfl, rfl⟩))
        case a2 => simp [enc_length]
        case a3 => exact (Rd.of_own HOD.out).keep0 ((Keep.refl _ _).alloc _)
        case a4 => simp only [maxLen]; omega
        case a5 => omega
        case a6 => simp
        case b2 => simp
        case b3 => exact hr3'.out.keep0 (((Keep.refl _ _).alloc _).trans' hk5 (by intro g hg; right; simp [Value.ownBlock] at hg; omega))
        case b4 => simp only [maxLen]; omega
        case b5 => omega
        case b6 => have := hk5.size; simp at this; omega
        have hk5' : Keep [] wd w5 := ((Keep.refl _ _).alloc _).trans' hk5 (by intro g hg; right; simp [Value.ownBlock] at hg; omega)
        have hk6' : Keep [] wd w6 := hk5'.trans' hk6 (by
          intro g hg
          right
          rcases hat5 with e | e <;> rw [e] at hg <;> simp [Value.ownBlock] at hg <;> omega)
        go_roundw
        case rel => exact ⟨j + 1, by omega, by go_num, HR2.out.trans hk6'⟩
        case measure => simp [intOf]; omega
      · have W1 := Lib.hid (wide_no (.slice A2 l2.length c2) n k wr hf)
        have W2 := Lib.hid (rwide_no n k wr hf)
        have HR := Lib.hid hkr
        clear hf hkr
        go_wp2_with (first
          | (go_at_call 13; with_reducible refine W1.out.mono ?_; rintro e w' ⟨rfl, rfl⟩)
          | (go_at_call 14; with_reducible refine W2.out.mono ?_; rintro e w' ⟨rfl, rfl⟩))
        go_roundw
        case rel => exact ⟨j + 1, by omega, by go_num, HR.out⟩
        case measure => simp [intOf]; omega
    · go_wp2
      go_ret
      exact ⟨rfl, HKR.out⟩


set_option maxRecDepth 100000 in
set_option maxHeartbeats 1000000 in
theorem vintBytes_long (n size : Int) (v2 v3 : Value) (l2 l3 : List Int) (w : World) (ht : Tabs w) (h2 : Sl .u8 w v2 l2) (h3 : Sl .u8 w v3 l3)
    (hl : 100 < l2.length ∨ 100 < l3.length) :
    Calls Tryd.prog 3 #[.int .u64 n, .int .i64 size, v2, v3] w fun e w' => e = .returned (.bool true) ∧ Keep [] w w' := by
  have A := Lib.hid (awake_any w ht)
  obtain ⟨A2, c2, rfl, _⟩ := h2
  obtain ⟨A3, c3, rfl, _⟩ := h3
  generalize l2.length = m2 at *
  generalize l3.length = m3 at *
  clear ht
  by_cases h1 : 100 < m2
  · clear hl
    go_enter Tryd.func3, Tryd.ntmps3
    go_wp2_with (go_at_call 8; with_reducible refine A.out.mono ?_; rintro e w1 ⟨rfl, hk1⟩)
    go_ret
    exact ⟨rfl, hk1⟩
  · have h3 : 100 < m3 := by omega
    clear hl
    go_enter Tryd.func3, Tryd.ntmps3
    go_wp2_with (go_at_call 8; with_reducible refine A.out.mono ?_; rintro e w1 ⟨rfl, hk1⟩)
    go_ret
    exact ⟨rfl, hk1⟩

theorem vintBytes_walk (n size : Int) (v2 : Value) (l2 : List Int) (v3 : Value) (l3 : List Int) (w : World) (ht : Tabs w) (hn : (Lit.int .u64 n).wf = true) (hs : (Lit.int .i64 size).wf = true) (h2 : Sl .u8 w v2 l2) (h3 : Sl .u8 w v3 l3) :
    Calls Tryd.prog 3 #[.int .u64 n, .int .i64 size, v2, v3] w fun e w' => e = .returned (.bool true) ∧ Keep [] w w' := by
  by_cases hl : 100 < l2.length ∨ 100 < l3.length
  · exact vintBytes_long n size v2 v3 l2 l3 w ht h2 h3 hl
  · by_cases hv : vlen n = 0
    · exact vintBytes_none n size v2 v3 l2 l3 w ht hs h2 h3 (by omega) (by omega) hv
    · exact vintBytes_some n size v2 v3 l2 l3 w ht hn h2 h3 (by omega) (by omega) hv

end Go.Proofs.YtaifocfnkhgpoaaDoor
