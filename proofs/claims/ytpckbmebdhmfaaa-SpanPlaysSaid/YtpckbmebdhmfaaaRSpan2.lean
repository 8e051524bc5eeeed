/-
  The document's answer for sets of ranges: Cut.
-/
import Derived.Test.YtpckbmebdhmfaaaRSpan1
namespace Go.Proofs.Ytpckbmebdhmfaaa
open Go.RowKit

theorem own_far {v v' : Value} {W G : Nat} (hV : v'.ownBlock = v.ownBlock ∨ v'.ownBlock = some W) (h : v.ownBlock ≠ some G) (hG : G < W) : v'.ownBlock ≠ some G := by
  rcases hV with e | e
  · rw [e]; exact h
  · rw [e]; intro hh; have := Option.some.inj hh; omega
theorem cutL_cons (x r : Nat × Nat) (l : List (Nat × Nat)) : Span.cutL (x :: l) r = if x.2 ≤ r.1 ∨ r.2 ≤ x.1 then x :: Span.cutL l r else (if x.1 < r.1 then [(x.1, r.1)] else []) ++ (if r.2 < x.2 then [(r.2, x.2)] else []) ++ Span.cutL l r := rfl

set_option maxRecDepth 100000 in
set_option maxHeartbeats 16000000 in
theorem rcut_any (lv : Value) (l : List (Nat × Nat)) (r : Nat × Nat) (w : World) (hl : S2 w lv l) (hr1 : r.1 < 18446744073709551616) (hr2 : r.2 < 18446744073709551616) (hn : l.length ≤ 1000000) :
    Calls Try.prog 15 #[lv, pv r] w fun e w' => ∃ v, e = .returned v ∧ S2 w' v (Span.cut l r) ∧ (v = lv ∨ ∀ b, v.ownBlock = some b → w.heap.size ≤ b) ∧ Keep [] w w' := by
  have HL := Lib.hid hl
  obtain ⟨A, c, rfl, hc1, hc2, -, -⟩ := hl
  obtain ⟨D, hD⟩ : ∃ D, D = (pc r).toArray := ⟨_, rfl⟩
  have HD := Lib.hid hD
  rw [pv_agg, ← hD]
  clear hD
  obtain ⟨n, hn'⟩ : ∃ n, n = l.length := ⟨_, rfl⟩
  have HN := Lib.hid hn'
  rw [← hn'] at HL hc1 hn ⊢
  clear hn'
  go_enter Try.func15, Try.ntmps15
  go_upto_region 1 with (refine wl_box rfl _ _ rfl D rfl ?_; intro w1 hB1 hk1 hz1; have HB1 := Lib.hid hB1; have HK1 := Lib.hid hk1; clear hB1 hk1 hz1)
  obtain ⟨G, hG⟩ : ∃ G, G = w.heap.size := ⟨_, rfl⟩
  have HG := Lib.hid hG
  have HB := Lib.hid (show Blk w1 G 36 (pc r).toArray by rw [hG, ← HD.out]; exact HB1.out)
  rw [← hG]
  clear hG HB1
  obtain ⟨g1, g2⟩ := HB.out.pair
  have b1 := u64_lt hr1
  have b2 := u64_lt hr2
  by_cases hrr : r.1 < r.2
  · have hh : ¬ ((r.2 : Nat) : Int) ≤ ((r.1 : Nat) : Int) := by omega
    go_upto_block 0 with fail
    go_wp2_with fail
    go_loopw [5, 6] (fun s5 s6 wr => ∃ (i : Nat) (out : List (Nat × Nat)), i ≤ n ∧ s6 = .int .i64 i ∧ wr.ownsRow w.heap.size 36 2 s5 out.length (pcs out) ∧ s5.ownBlock ≠ some G ∧ Blk wr G 36 (pc r).toArray ∧
      P64 out ∧ out.length ≤ 2 * i ∧ out ++ Span.cutL (l.drop i) r = Span.cutL l r ∧ Keep [] w wr) (fun _ s6 _ => n - (intOf s6).toNat)
    case atStart => exact ⟨0, [], by omega, rfl, World.ownsRow_nil _ _ _ _, by simp [Value.ownBlock], HB.out, P64.nil, by simp, rfl, HK1.out⟩
    case round =>
      obtain ⟨i, out, hi, rfl, ho, hoG, hb, hp, hol, hcome, hk⟩ := hrel
      have HO := Lib.hid ho
      have HOG := Lib.hid hoG
      have HBQ := Lib.hid hb
      have HP := Lib.hid hp
      have HC := Lib.hid hcome
      have HK := Lib.hid hk
      clear ho hoG hb hp hcome hk
      by_cases hlt : i < n
      · have HLi := HL.out.keep0 HK.out
        have hdr := drop_getD l i (by have := HN.out; omega)
        have hx := HLi.p64.getD i
        obtain ⟨b, off, c', he, -, -, hblt, hcell⟩ := HLi.cells (by have := HN.out; omega)
        simp only [Value.slice.injEq] at he
        obtain ⟨rfl, -, rfl⟩ := he
        obtain ⟨x1, x2⟩ := hcell i (by have := HN.out; omega)
        obtain ⟨x, hxx⟩ : ∃ x, x = l.getD i (0, 0) := ⟨_, rfl⟩
        rw [← hxx] at hx x1 x2 hdr
        rw [hdr] at HC
        have HNG := Lib.hid (show b ≠ G ∧ w.heap.size ≤ G by
          have h1 := HG.out
          have h2 := HL.out.lt (by have := HN.out; omega) b rfl
          omega)
        have bi : (0 : Int) ≤ i ∧ (i : Int) < n := ⟨by omega, by omega⟩
        clear hcell HLi hdr hxx
        obtain ⟨hx1, hx2⟩ := hx
        have by1 := u64_lt hx1
        have by2 := u64_lt hx2
        go_upto_region 8 with (first
          | (refine wl_load_pair rfl _ _ rfl b (off + i * 2) x rfl _ Try.underlying36 rfl rrSz x1 x2 ?_)
          | (refine wl_alloc_rowZ rfl _ rfl (pc (0, 0)).toArray 2 rrZ ?_; intro w4 hB4 hk4 hz4; have HB4 := Lib.hid hB4; have HK4 := Lib.hid hk4; clear hB4 hk4 hz4)
          | (refine wl_store_row rfl _ _ _ rfl wr.heap.size rfl (pc x).toArray rfl _ _ HB4.out rrSz pc_size (pc_all x) ?_; intro w5 hB5 hk5 hz5; have HB5 := Lib.hid hB5; have HK5 := Lib.hid hk5; clear hB5 hk5 hz5))
        obtain ⟨M, hM⟩ : ∃ M, M = wr.heap.size := ⟨_, rfl⟩
        have HMG := Lib.hid (show G ≠ M ∧ w.heap.size ≤ M by have h1 := HBQ.out.lt; have h2 := HNG.out; omega)
        have HK45 := Lib.hid (show Keep [] wr w5 from HK4.out.trans' HK5.out (fun y hy => by right; simp at hy; omega))
        have HK05 := Lib.hid (HK.out.trans HK45.out)
        have HBM := Lib.hid (show Blk w5 M 36 (pc x).toArray by rw [hM]; exact HB5.out)
        have HBQ5 := Lib.hid (HBQ.out.keep HK45.out (by simp))
        have HO5 := Lib.hid (own_keep0 HO.out HK45.out)
        have HOM := Lib.hid (show u5.ownBlock ≠ some M from fun hh => by have := (own_lt HO.out M hh).1; omega)
        obtain ⟨m1, m2⟩ := HBM.out.pair
        obtain ⟨q3, q4⟩ := HBQ5.out.pair
        have fz0 := HBQ5.out.frozen 0
        have fz1 := HBQ5.out.frozen 1
        have hGM : G ≠ M := HMG.out.1
        have hMG : M ≠ G := fun h => hGM h.symm
        have hsz := HK05.out.size
        have HOGM := Lib.hid (show u5.ownBlock ≠ some G ∧ u5.ownBlock ≠ some M from ⟨HOG.out, HOM.out⟩)
        rw [← hM]
        clear hM HB4 HK4 HB5 HK5 HBQ HO HK x1 x2
        by_cases ht : x.2 ≤ r.1 ∨ r.2 ≤ x.1
        · have HT := Lib.hid ht
          by_cases h1 : x.2 ≤ r.1
          · have c1 : ((x.2 : Nat) : Int) ≤ ((r.1 : Nat) : Int) := by omega
            go_wp2_with (first
              | (refine wl_load_pair rfl _ _ rfl M 0 x rfl _ Try.underlying36 rfl rrSz m1 m2 ?_)
              | (refine wl_build_one rfl _ _ _ rfl Try.underlying30 x (by simp; rfl) (rrBuilt x) ?_; intro m6 w6 hm6 hB6 hk6; have HB6 := Lib.hid hB6; have HK6 := Lib.hid hk6; have HO6 := Lib.hid (own_keep0 HO5.out hk6); have hsz6 : w.heap.size ≤ w6.heap.size := Nat.le_trans hsz hk6.size; clear hm6 hB6 hk6)
              | (refine wl_append_one rfl _ _ _ rfl w.heap.size 36 Try.underlying30 rrInfo u5 out rfl HO6.out m6 x rfl HB6.out (by first | omega | (simp; omega)) hsz6 ?_; intro v7 w7 ho7 hk7 hb7; have HO7 := Lib.hid ho7; have HK7 := Lib.hid hk7; have HV7 := Lib.hid hb7; clear ho7 hk7 hb7; have HKK7 := Lib.hid (show Keep [] w w7 from (HK05.out.trans HK6.out).trans' HK7.out (fun y hy => .inr (own_lt HO6.out y (by simpa using hy)).2)); have HG6 := Lib.hid (HBQ5.out.keep HK6.out (by simp)); have HM6 := Lib.hid (HBM.out.keep HK6.out (by simp)); have HG7 := Lib.hid (HG6.out.keep HK7.out (fun hm => HOGM.out.1 (by simpa using hm))); have HM7 := Lib.hid (HM6.out.keep HK7.out (fun hm => HOGM.out.2 (by simpa using hm))); have HOG7 := Lib.hid (And.intro (own_far HV7.out HOGM.out.1 HG6.out.lt) (own_far HV7.out HOGM.out.2 HM6.out.lt)); have hsz7 : w.heap.size ≤ w7.heap.size := HKK7.out.size; obtain ⟨gq7, gr7⟩ := HG7.out.pair; obtain ⟨mq7, mr7⟩ := HM7.out.pair))
            all_goals
              refine ⟨⟨i + 1, out ++ [x], by omega, by go_num, HO7.out, HOG7.out.1, HG7.out, HP.out.append (P64.one hx1 hx2), by simp; omega, ?_, HKK7.out⟩, by simp [intOf]; omega⟩
              have h := HC.out
              rw [cutL_cons, if_pos HT.out] at h
              simpa using h
          · have c1 : ¬ ((x.2 : Nat) : Int) ≤ ((r.1 : Nat) : Int) := by omega
            have c2 : ((r.2 : Nat) : Int) ≤ ((x.1 : Nat) : Int) := by omega
            go_wp2_with (first
              | (refine wl_load_pair rfl _ _ rfl M 0 x rfl _ Try.underlying36 rfl rrSz m1 m2 ?_)
              | (refine wl_build_one rfl _ _ _ rfl Try.underlying30 x (by simp; rfl) (rrBuilt x) ?_; intro m6 w6 hm6 hB6 hk6; have HB6 := Lib.hid hB6; have HK6 := Lib.hid hk6; have HO6 := Lib.hid (own_keep0 HO5.out hk6); have hsz6 : w.heap.size ≤ w6.heap.size := Nat.le_trans hsz hk6.size; clear hm6 hB6 hk6)
              | (refine wl_append_one rfl _ _ _ rfl w.heap.size 36 Try.underlying30 rrInfo u5 out rfl HO6.out m6 x rfl HB6.out (by first | omega | (simp; omega)) hsz6 ?_; intro v7 w7 ho7 hk7 hb7; have HO7 := Lib.hid ho7; have HK7 := Lib.hid hk7; have HV7 := Lib.hid hb7; clear ho7 hk7 hb7; have HKK7 := Lib.hid (show Keep [] w w7 from (HK05.out.trans HK6.out).trans' HK7.out (fun y hy => .inr (own_lt HO6.out y (by simpa using hy)).2)); have HG6 := Lib.hid (HBQ5.out.keep HK6.out (by simp)); have HM6 := Lib.hid (HBM.out.keep HK6.out (by simp)); have HG7 := Lib.hid (HG6.out.keep HK7.out (fun hm => HOGM.out.1 (by simpa using hm))); have HM7 := Lib.hid (HM6.out.keep HK7.out (fun hm => HOGM.out.2 (by simpa using hm))); have HOG7 := Lib.hid (And.intro (own_far HV7.out HOGM.out.1 HG6.out.lt) (own_far HV7.out HOGM.out.2 HM6.out.lt)); have hsz7 : w.heap.size ≤ w7.heap.size := HKK7.out.size; obtain ⟨gq7, gr7⟩ := HG7.out.pair; obtain ⟨mq7, mr7⟩ := HM7.out.pair))
            all_goals
              refine ⟨⟨i + 1, out ++ [x], by omega, by go_num, HO7.out, HOG7.out.1, HG7.out, HP.out.append (P64.one hx1 hx2), by simp; omega, ?_, HKK7.out⟩, by simp [intOf]; omega⟩
              have h := HC.out
              rw [cutL_cons, if_pos HT.out] at h
              simpa using h
        · have HT := Lib.hid ht
          have c1 : ¬ ((x.2 : Nat) : Int) ≤ ((r.1 : Nat) : Int) := by omega
          have c2 : ¬ ((r.2 : Nat) : Int) ≤ ((x.1 : Nat) : Int) := by omega
          by_cases hu1 : x.1 < r.1
          · have d1 : ((x.1 : Nat) : Int) < ((r.1 : Nat) : Int) := by omega
            by_cases hu2 : r.2 < x.2
            · have d2 : ((r.2 : Nat) : Int) < ((x.2 : Nat) : Int) := by omega
              go_wp2_with (first
                | (refine wl_build_one rfl _ _ _ rfl Try.underlying30 (x.1, r.1) (by simp; rfl) (rrBuilt (x.1, r.1)) ?_; intro m6 w6 hm6 hB6 hk6; have HB6 := Lib.hid hB6; have HK6 := Lib.hid hk6; have HO6 := Lib.hid (own_keep0 HO5.out hk6); have hsz6 : w.heap.size ≤ w6.heap.size := Nat.le_trans hsz hk6.size; clear hm6 hB6 hk6)
                | (refine wl_append_one rfl _ _ _ rfl w.heap.size 36 Try.underlying30 rrInfo u5 out rfl HO6.out m6 (x.1, r.1) rfl HB6.out (by first | omega | (simp; omega)) hsz6 ?_; intro v7 w7 ho7 hk7 hb7; have HO7 := Lib.hid ho7; have HK7 := Lib.hid hk7; have HV7 := Lib.hid hb7; clear ho7 hk7 hb7; have HKK7 := Lib.hid (show Keep [] w w7 from (HK05.out.trans HK6.out).trans' HK7.out (fun y hy => .inr (own_lt HO6.out y (by simpa using hy)).2)); have HG6 := Lib.hid (HBQ5.out.keep HK6.out (by simp)); have HM6 := Lib.hid (HBM.out.keep HK6.out (by simp)); have HG7 := Lib.hid (HG6.out.keep HK7.out (fun hm => HOGM.out.1 (by simpa using hm))); have HM7 := Lib.hid (HM6.out.keep HK7.out (fun hm => HOGM.out.2 (by simpa using hm))); have HOG7 := Lib.hid (And.intro (own_far HV7.out HOGM.out.1 HG6.out.lt) (own_far HV7.out HOGM.out.2 HM6.out.lt)); have hsz7 : w.heap.size ≤ w7.heap.size := HKK7.out.size; obtain ⟨gq7, gr7⟩ := HG7.out.pair; obtain ⟨mq7, mr7⟩ := HM7.out.pair)
                | (refine wl_build_one rfl _ _ _ rfl Try.underlying30 (r.2, x.2) (by simp; rfl) (rrBuilt (r.2, x.2)) ?_; intro m8 w8 hm8 hB8 hk8; have HB8 := Lib.hid hB8; have HK8 := Lib.hid hk8; have HO8 := Lib.hid (own_keep0 HO7.out hk8); have hsz8 : w.heap.size ≤ w8.heap.size := Nat.le_trans hsz7 hk8.size; clear hm8 hB8 hk8)
                | (refine wl_append_one rfl _ _ _ rfl w.heap.size 36 Try.underlying30 rrInfo v7 (out ++ [(x.1, r.1)]) rfl HO8.out m8 (r.2, x.2) rfl HB8.out (by first | omega | (simp; omega)) hsz8 ?_; intro v9 w9 ho9 hk9 hb9; have HO9 := Lib.hid ho9; have HK9 := Lib.hid hk9; have HV9 := Lib.hid hb9; clear ho9 hk9 hb9; have HKK9 := Lib.hid (show Keep [] w w9 from (HKK7.out.trans HK8.out).trans' HK9.out (fun y hy => .inr (own_lt HO8.out y (by simpa using hy)).2)); have HG8 := Lib.hid (HG7.out.keep HK8.out (by simp)); have HM8 := Lib.hid (HM7.out.keep HK8.out (by simp)); have HG9 := Lib.hid (HG8.out.keep HK9.out (fun hm => HOG7.out.1 (by simpa using hm))); have HM9 := Lib.hid (HM8.out.keep HK9.out (fun hm => HOG7.out.2 (by simpa using hm))); have HOG9 := Lib.hid (And.intro (own_far HV9.out HOG7.out.1 HG8.out.lt) (own_far HV9.out HOG7.out.2 HM8.out.lt)); have hsz9 : w.heap.size ≤ w9.heap.size := HKK9.out.size; obtain ⟨gq9, gr9⟩ := HG9.out.pair; obtain ⟨mq9, mr9⟩ := HM9.out.pair))
              all_goals
                refine ⟨⟨i + 1, (out ++ [(x.1, r.1)]) ++ [(r.2, x.2)], by omega, by go_num, HO9.out, HOG9.out.1, HG9.out, (HP.out.append (P64.one (x := (x.1, r.1)) hx1 hr1)).append (P64.one (x := (r.2, x.2)) hr2 hx2), by simp; omega, ?_, HKK9.out⟩, by simp [intOf]; omega⟩
                have h := HC.out
                rw [cutL_cons, if_neg HT.out, if_pos hu1, if_pos hu2] at h
                simpa using h
            · have d2 : ¬ ((r.2 : Nat) : Int) < ((x.2 : Nat) : Int) := by omega
              go_wp2_with (first
                | (refine wl_build_one rfl _ _ _ rfl Try.underlying30 (x.1, r.1) (by simp; rfl) (rrBuilt (x.1, r.1)) ?_; intro m6 w6 hm6 hB6 hk6; have HB6 := Lib.hid hB6; have HK6 := Lib.hid hk6; have HO6 := Lib.hid (own_keep0 HO5.out hk6); have hsz6 : w.heap.size ≤ w6.heap.size := Nat.le_trans hsz hk6.size; clear hm6 hB6 hk6)
                | (refine wl_append_one rfl _ _ _ rfl w.heap.size 36 Try.underlying30 rrInfo u5 out rfl HO6.out m6 (x.1, r.1) rfl HB6.out (by first | omega | (simp; omega)) hsz6 ?_; intro v7 w7 ho7 hk7 hb7; have HO7 := Lib.hid ho7; have HK7 := Lib.hid hk7; have HV7 := Lib.hid hb7; clear ho7 hk7 hb7; have HKK7 := Lib.hid (show Keep [] w w7 from (HK05.out.trans HK6.out).trans' HK7.out (fun y hy => .inr (own_lt HO6.out y (by simpa using hy)).2)); have HG6 := Lib.hid (HBQ5.out.keep HK6.out (by simp)); have HM6 := Lib.hid (HBM.out.keep HK6.out (by simp)); have HG7 := Lib.hid (HG6.out.keep HK7.out (fun hm => HOGM.out.1 (by simpa using hm))); have HM7 := Lib.hid (HM6.out.keep HK7.out (fun hm => HOGM.out.2 (by simpa using hm))); have HOG7 := Lib.hid (And.intro (own_far HV7.out HOGM.out.1 HG6.out.lt) (own_far HV7.out HOGM.out.2 HM6.out.lt)); have hsz7 : w.heap.size ≤ w7.heap.size := HKK7.out.size; obtain ⟨gq7, gr7⟩ := HG7.out.pair; obtain ⟨mq7, mr7⟩ := HM7.out.pair))
              all_goals
                refine ⟨⟨i + 1, out ++ [(x.1, r.1)], by omega, by go_num, HO7.out, HOG7.out.1, HG7.out, HP.out.append (P64.one (x := (x.1, r.1)) hx1 hr1), by simp; omega, ?_, HKK7.out⟩, by simp [intOf]; omega⟩
                have h := HC.out
                rw [cutL_cons, if_neg HT.out, if_pos hu1, if_neg hu2] at h
                simpa using h
          · have d1 : ¬ ((x.1 : Nat) : Int) < ((r.1 : Nat) : Int) := by omega
            by_cases hu2 : r.2 < x.2
            · have d2 : ((r.2 : Nat) : Int) < ((x.2 : Nat) : Int) := by omega
              go_wp2_with (first
                | (refine wl_build_one rfl _ _ _ rfl Try.underlying30 (r.2, x.2) (by simp; rfl) (rrBuilt (r.2, x.2)) ?_; intro m6 w6 hm6 hB6 hk6; have HB6 := Lib.hid hB6; have HK6 := Lib.hid hk6; have HO6 := Lib.hid (own_keep0 HO5.out hk6); have hsz6 : w.heap.size ≤ w6.heap.size := Nat.le_trans hsz hk6.size; clear hm6 hB6 hk6)
                | (refine wl_append_one rfl _ _ _ rfl w.heap.size 36 Try.underlying30 rrInfo u5 out rfl HO6.out m6 (r.2, x.2) rfl HB6.out (by first | omega | (simp; omega)) hsz6 ?_; intro v7 w7 ho7 hk7 hb7; have HO7 := Lib.hid ho7; have HK7 := Lib.hid hk7; have HV7 := Lib.hid hb7; clear ho7 hk7 hb7; have HKK7 := Lib.hid (show Keep [] w w7 from (HK05.out.trans HK6.out).trans' HK7.out (fun y hy => .inr (own_lt HO6.out y (by simpa using hy)).2)); have HG6 := Lib.hid (HBQ5.out.keep HK6.out (by simp)); have HM6 := Lib.hid (HBM.out.keep HK6.out (by simp)); have HG7 := Lib.hid (HG6.out.keep HK7.out (fun hm => HOGM.out.1 (by simpa using hm))); have HM7 := Lib.hid (HM6.out.keep HK7.out (fun hm => HOGM.out.2 (by simpa using hm))); have HOG7 := Lib.hid (And.intro (own_far HV7.out HOGM.out.1 HG6.out.lt) (own_far HV7.out HOGM.out.2 HM6.out.lt)); have hsz7 : w.heap.size ≤ w7.heap.size := HKK7.out.size; obtain ⟨gq7, gr7⟩ := HG7.out.pair; obtain ⟨mq7, mr7⟩ := HM7.out.pair))
              all_goals
                refine ⟨⟨i + 1, out ++ [(r.2, x.2)], by omega, by go_num, HO7.out, HOG7.out.1, HG7.out, HP.out.append (P64.one (x := (r.2, x.2)) hr2 hx2), by simp; omega, ?_, HKK7.out⟩, by simp [intOf]; omega⟩
                have h := HC.out
                rw [cutL_cons, if_neg HT.out, if_neg hu1, if_pos hu2] at h
                simpa using h
            · have d2 : ¬ ((r.2 : Nat) : Int) < ((x.2 : Nat) : Int) := by omega
              go_wp2_with fail
              all_goals
                refine ⟨⟨i + 1, out, by omega, by go_num, HO5.out, HOGM.out.1, HBQ5.out, HP.out, by omega, ?_, HK05.out⟩, by simp [intOf]; omega⟩
                have h := HC.out
                rw [cutL_cons, if_neg HT.out, if_neg hu1, if_neg hu2] at h
                simpa using h
      · have HIN := Lib.hid (show i = n by omega)
        have hdn : l.drop i = [] := List.drop_of_length_le (by have := HN.out; have := HIN.out; omega)
        rw [hdn, show Span.cutL [] r = [] from rfl, List.append_nil] at HC
        have hnl : ¬ (i : Int) < (n : Int) := by have := HIN.out; omega
        clear hdn
        have HADD := Lib.hid (show Span.cutL l r = Span.cut l r by unfold Span.cut; rw [if_pos hrr])
        rw [HADD.out] at HC
        go_wp2_with fail
        go_ret
        refine ⟨_, rfl, ?_, .inr (fun b hb => (own_lt HO.out b hb).2), HK.out⟩
        rw [← HC.out]
        exact S2.of_own HO.out HP.out
  · have hh : ((r.2 : Nat) : Int) ≤ ((r.1 : Nat) : Int) := by omega
    go_wp2_with fail
    go_ret
    refine ⟨_, rfl, ?_, .inl rfl, HK1.out⟩
    unfold Span.cut
    rw [if_neg hrr]
    have := HL.out
    rw [HN.out] at this ⊢
    exact this.keep0 HK1.out
end Go.Proofs.Ytpckbmebdhmfaaa
