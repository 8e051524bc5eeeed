/-
  The document's answer for sets of ranges: Add.
-/
import Derived.Test.YtpckbmebdhmfaaaPair
namespace Go.Proofs.Ytpckbmebdhmfaaa
open Go.RowKit

theorem rrInfo : (Try.prog.info? 36).map (fun i => (i.zero, i.size, i.bytes)) = some (some (.agg #[.int .u64 0, .int .u64 0]), 2, 16) := by kernel_rfl
theorem rrZ : (Try.prog.info? 36).map (fun i => (i.zero, i.size)) = some (some (.agg (pc (0, 0)).toArray), 2) := by kernel_rfl
theorem rrSz : (Try.prog.info? 36).map (·.size) = some 2 := by kernel_rfl
theorem pv_agg (x : Nat × Nat) : pv x = .agg (pc x).toArray := rfl
theorem rrBuilt (x : Nat × Nat) : Try.prog.builtSlice 36 1 [(0, .agg (pc x).toArray)] = some (pc x).toArray := by kernel_rfl

theorem pc_all (x : Nat × Nat) : (pc x).toArray.all (·.oneCell') = true := by simp [pc, Value.oneCell']
theorem pc_size {x y : Nat × Nat} : (pc x).toArray.size = (pc y).toArray.size := rfl
theorem pair_set0 {w : World} {G t : Nat} {q : Nat × Nat} (h : Blk w G t (pc q).toArray) (a : Nat) : Blk (w.setCell ⟨G, 0, none⟩ (.int .u64 (a : Int))) G t (pc (a, q.2)).toArray := h.set_ 0 _
theorem pair_set1 {w : World} {G t : Nat} {q : Nat × Nat} (h : Blk w G t (pc q).toArray) (a : Nat) : Blk (w.setCell ⟨G, 1, none⟩ (.int .u64 (a : Int))) G t (pc (q.1, a)).toArray := h.set_ 1 _
theorem own_lt {w : World} {base : Nat} {e : TypeId} {size n : Nat} {v : Value} {xs : List Value} (h : w.ownsRow base e size v n xs) : ∀ g, v.ownBlock = some g → g < w.heap.size ∧ base ≤ g := by
  intro g hg
  rcases h.2 with ⟨rfl, _⟩ | ⟨g', cap, cur, rfl, hb, hh, _⟩
  · simp [Value.ownBlock] at hg
  · obtain rfl : g' = g := by simpa [Value.ownBlock] using hg
    exact ⟨(Array.getElem?_eq_some_iff.1 hh).1, hb⟩
theorem addL_cons (x r : Nat × Nat) (l : List (Nat × Nat)) : Span.addL (x :: l) r = if r.1 ≤ x.2 ∧ x.1 ≤ r.2 then Span.addL l (min x.1 r.1, max x.2 r.2) else if r.2 < x.1 then r :: x :: Span.addD l r else x :: Span.addL l r := rfl
theorem addD_cons (x r : Nat × Nat) (l : List (Nat × Nat)) : Span.addD (x :: l) r = if r.1 ≤ x.2 ∧ x.1 ≤ r.2 then Span.addD l (min x.1 r.1, max x.2 r.2) else x :: Span.addD l r := rfl
/-- What is still to come. -/
def toCome (d : Bool) (l : List (Nat × Nat)) (r : Nat × Nat) : List (Nat × Nat) := if d then Span.addD l r else Span.addL l r
theorem toCome_touch (d : Bool) (x q : Nat × Nat) (l : List (Nat × Nat)) (h : q.1 ≤ x.2 ∧ x.1 ≤ q.2) : toCome d (x :: l) q = toCome d l (min x.1 q.1, max x.2 q.2) := by
  cases d
  · simp only [toCome, Bool.false_eq_true, if_false]; rw [addL_cons, if_pos h]
  · simp only [toCome, if_true]; rw [addD_cons, if_pos h]
theorem toCome_new (x q : Nat × Nat) (l : List (Nat × Nat)) (h : ¬ (q.1 ≤ x.2 ∧ x.1 ≤ q.2)) (h2 : q.2 < x.1) : toCome false (x :: l) q = q :: x :: toCome true l q := by
  simp only [toCome, Bool.false_eq_true, if_false, if_true]; rw [addL_cons, if_neg h, if_pos h2]
theorem toCome_old (d : Bool) (x q : Nat × Nat) (l : List (Nat × Nat)) (h : ¬ (q.1 ≤ x.2 ∧ x.1 ≤ q.2)) (h2 : d = true ∨ ¬ q.2 < x.1) : toCome d (x :: l) q = x :: toCome d l q := by
  cases d
  · simp only [toCome, Bool.false_eq_true, if_false]; rw [addL_cons, if_neg h, if_neg (by simpa using h2)]
  · simp only [toCome, if_true]; rw [addD_cons, if_neg h]
theorem drop_getD (l : List (Nat × Nat)) (i : Nat) (h : i < l.length) : l.drop i = l.getD i (0, 0) :: l.drop (i + 1) := by
  rw [List.drop_eq_getElem_cons h, List.getD_eq_getElem?_getD, List.getElem?_eq_getElem h]; rfl

set_option maxRecDepth 100000 in
set_option maxHeartbeats 16000000 in
theorem radd_any (lv : Value) (l : List (Nat × Nat)) (r : Nat × Nat) (w : World) (hl : S2 w lv l) (hr1 : r.1 < 18446744073709551616) (hr2 : r.2 < 18446744073709551616) (hn : l.length ≤ 1000000) :
    Calls Try.prog 11 #[lv, pv r] w fun e w' => ∃ v, e = .returned v ∧ S2 w' v (Span.add l r) ∧ (v = lv ∨ ∀ b, v.ownBlock = some b → w.heap.size ≤ b) ∧ Keep [] w w' := by
  have HL := Lib.hid hl
  obtain ⟨A, c, rfl, hc1, hc2, -, -⟩ := hl
  obtain ⟨D, hD⟩ : ∃ D, D = (pc r).toArray := ⟨_, rfl⟩
  have HD := Lib.hid hD
  rw [pv_agg, ← hD]
  clear hD
  obtain ⟨n, hn'⟩ : ∃ n, n = l.length := ⟨_, rfl⟩
  have HN := Lib.hid hn'
  rw [← hn'] at HL hc1 hn ⊢
  clear hn'
  go_enter Try.func11, Try.ntmps11
  go_upto_region 1 with (refine wl_box rfl _ _ rfl D rfl ?_; intro w1 hB1 hk1 hz1; have HB1 := Lib.hid hB1; have HK1 := Lib.hid hk1; clear hB1 hk1 hz1)
  obtain ⟨G, hG⟩ : ∃ G, G = w.heap.size := ⟨_, rfl⟩
  have HG := Lib.hid hG
  have HB := Lib.hid (show Blk w1 G 36 (pc r).toArray by rw [hG, ← HD.out]; exact HB1.out)
  rw [← hG]
  clear hG HB1
  obtain ⟨g1, g2⟩ := HB.out.pair
  have b1 := u64_lt hr1
  have b2 := u64_lt hr2
  by_cases hrr : r.1 < r.2
  · have hh : ¬ ((r.2 : Nat) : Int) ≤ ((r.1 : Nat) : Int) := by omega
    go_upto_block 0 with fail
    go_wp2_with fail
    go_loopw [5, 6, 7] (fun s5 s6 s7 wr => ∃ (i : Nat) (out : List (Nat × Nat)) (q : Nat × Nat) (d : Bool), i ≤ n ∧ s7 = .int .i64 i ∧ s6 = .bool d ∧ wr.ownsRow w.heap.size 36 2 s5 out.length (pcs out) ∧ s5.ownBlock ≠ some G ∧ Blk wr G 36 (pc q).toArray ∧
      q.1 < 18446744073709551616 ∧ q.2 < 18446744073709551616 ∧ P64 out ∧ out.length ≤ 2 * i ∧ out ++ toCome d (l.drop i) q = Span.addL l r ∧ Keep [] w wr) (fun _ _ s7 _ => n - (intOf s7).toNat)
    case atStart => exact ⟨0, [], r, false, by omega, rfl, rfl, World.ownsRow_nil _ _ _ _, by simp [Value.ownBlock], HB.out, hr1, hr2, P64.nil, by simp, rfl, HK1.out⟩
    case round =>
      obtain ⟨i, out, q, d, hi, rfl, rfl, ho, hoG, hb, hq1, hq2, hp, hol, hcome, hk⟩ := hrel
      have HO := Lib.hid ho
      have HOG := Lib.hid hoG
      have HBQ := Lib.hid hb
      have HP := Lib.hid hp
      have HC := Lib.hid hcome
      have HK := Lib.hid hk
      obtain ⟨q1, q2⟩ := hb.pair
      clear ho hoG hb hp hcome hk
      by_cases hlt : i < n
      · have HLi := HL.out.keep0 HK.out
        have hdr := drop_getD l i (by have := HN.out; omega)
        have hx := HLi.p64.getD i
        obtain ⟨b, off, c', he, -, -, hblt, hcell⟩ := HLi.cells (by have := HN.out; omega)
        simp only [Value.slice.injEq] at he
        obtain ⟨rfl, -, rfl⟩ := he
        obtain ⟨x1, x2⟩ := hcell i (by have := HN.out; omega)
        obtain ⟨x, hxx⟩ : ∃ x, x = l.getD i (0, 0) := ⟨_, rfl⟩
        rw [← hxx] at hx x1 x2 hdr
        rw [hdr] at HC
        have HNG := Lib.hid (show b ≠ G ∧ w.heap.size ≤ G by
          have h1 := HG.out
          have h2 := HL.out.lt (by have := HN.out; omega) b rfl
          omega)
        have bi : (0 : Int) ≤ i ∧ (i : Int) < n := ⟨by omega, by omega⟩
        clear hcell HLi hdr hxx
        obtain ⟨hx1, hx2⟩ := hx
        have by1 := u64_lt hx1
        have by2 := u64_lt hx2
        have bq1 := u64_lt hq1
        have bq2 := u64_lt hq2
        go_upto_region 9 with (first
          | (refine wl_load_pair rfl _ _ rfl b (off + i * 2) x rfl _ Try.underlying36 rfl rrSz x1 x2 ?_)
          | (refine wl_alloc_rowZ rfl _ rfl (pc (0, 0)).toArray 2 rrZ ?_; intro w4 hB4 hk4 hz4; have HB4 := Lib.hid hB4; have HK4 := Lib.hid hk4; clear hB4 hk4 hz4)
          | (refine wl_store_row rfl _ _ _ rfl wr.heap.size rfl (pc x).toArray rfl _ _ HB4.out rrSz pc_size (pc_all x) ?_; intro w5 hB5 hk5 hz5; have HB5 := Lib.hid hB5; have HK5 := Lib.hid hk5; clear hB5 hk5 hz5))
        obtain ⟨M, hM⟩ : ∃ M, M = wr.heap.size := ⟨_, rfl⟩
        have HMG := Lib.hid (show G ≠ M ∧ w.heap.size ≤ M by have h1 := HBQ.out.lt; have h2 := HNG.out; omega)
        have HK45 := Lib.hid (show Keep [] wr w5 from HK4.out.trans' HK5.out (fun y hy => by right; simp at hy; omega))
        have HK05 := Lib.hid (HK.out.trans HK45.out)
        have HBM := Lib.hid (show Blk w5 M 36 (pc x).toArray by rw [hM]; exact HB5.out)
        have HBQ5 := Lib.hid (HBQ.out.keep HK45.out (by simp))
        have HO5 := Lib.hid (own_keep0 HO.out HK45.out)
        have HOM := Lib.hid (show u5.ownBlock ≠ some M from fun hh => by have := (own_lt HO.out M hh).1; omega)
        obtain ⟨m1, m2⟩ := HBM.out.pair
        obtain ⟨q3, q4⟩ := HBQ5.out.pair
        have fz0 := HBQ5.out.frozen 0
        have fz1 := HBQ5.out.frozen 1
        have hGM : G ≠ M := HMG.out.1
        have hMG : M ≠ G := fun h => hGM h.symm
        have hsz := HK05.out.size
        rw [← hM]
        clear hM HB4 HK4 HB5 HK5 HBQ HO HK q1 q2 x1 x2
        by_cases ht : q.1 ≤ x.2 ∧ x.1 ≤ q.2
        · have t1 : ((q.1 : Nat) : Int) ≤ ((x.2 : Nat) : Int) := by omega
          have t2 : ((x.1 : Nat) : Int) ≤ ((q.2 : Nat) : Int) := by omega
          by_cases hu1 : x.1 < q.1
          · by_cases hu2 : q.2 < x.2
            · have c1 : ((x.1 : Nat) : Int) < ((q.1 : Nat) : Int) := by omega
              have c2 : ((q.2 : Nat) : Int) < ((x.2 : Nat) : Int) := by omega
              go_wp2_with fail
              refine ⟨⟨i + 1, out, (x.1, x.2), d, by omega, by go_num, rfl, (own_keep (own_keep HO5.out ((Keep.refl [G] _).setCell (.inl (by simp)) _) (fun g hg hm => HOG.out (by rw [hg, List.mem_singleton.1 hm]))) ((Keep.refl [G] _).setCell (.inl (by simp)) _) (fun g hg hm => HOG.out (by rw [hg, List.mem_singleton.1 hm]))), HOG.out, (pair_set1 (pair_set0 HBQ5.out x.1) x.2), hx1, hx2, HP.out, by omega, ?_, ((HK05.out.setCell (.inr HNG.out.2) _).setCell (.inr HNG.out.2) _)⟩, by simp [intOf]; omega⟩
              have h := HC.out
              rw [toCome_touch d x q _ ⟨by omega, by omega⟩, show min x.1 q.1 = x.1 by omega, show max x.2 q.2 = x.2 by omega] at h
              exact h
            · have c1 : ((x.1 : Nat) : Int) < ((q.1 : Nat) : Int) := by omega
              have c2 : ¬ ((q.2 : Nat) : Int) < ((x.2 : Nat) : Int) := by omega
              go_wp2_with fail
              refine ⟨⟨i + 1, out, (x.1, q.2), d, by omega, by go_num, rfl, (own_keep HO5.out ((Keep.refl [G] _).setCell (.inl (by simp)) _) (fun g hg hm => HOG.out (by rw [hg, List.mem_singleton.1 hm]))), HOG.out, (pair_set0 HBQ5.out x.1), hx1, hq2, HP.out, by omega, ?_, (HK05.out.setCell (.inr HNG.out.2) _)⟩, by simp [intOf]; omega⟩
              have h := HC.out
              rw [toCome_touch d x q _ ⟨by omega, by omega⟩, show min x.1 q.1 = x.1 by omega, show max x.2 q.2 = q.2 by omega] at h
              exact h
          · by_cases hu2 : q.2 < x.2
            · have c1 : ¬ ((x.1 : Nat) : Int) < ((q.1 : Nat) : Int) := by omega
              have c2 : ((q.2 : Nat) : Int) < ((x.2 : Nat) : Int) := by omega
              go_wp2_with fail
              refine ⟨⟨i + 1, out, (q.1, x.2), d, by omega, by go_num, rfl, (own_keep HO5.out ((Keep.refl [G] _).setCell (.inl (by simp)) _) (fun g hg hm => HOG.out (by rw [hg, List.mem_singleton.1 hm]))), HOG.out, (pair_set1 HBQ5.out x.2), hq1, hx2, HP.out, by omega, ?_, (HK05.out.setCell (.inr HNG.out.2) _)⟩, by simp [intOf]; omega⟩
              have h := HC.out
              rw [toCome_touch d x q _ ⟨by omega, by omega⟩, show min x.1 q.1 = q.1 by omega, show max x.2 q.2 = x.2 by omega] at h
              exact h
            · have c1 : ¬ ((x.1 : Nat) : Int) < ((q.1 : Nat) : Int) := by omega
              have c2 : ¬ ((q.2 : Nat) : Int) < ((x.2 : Nat) : Int) := by omega
              go_wp2_with fail
              refine ⟨⟨i + 1, out, (q.1, q.2), d, by omega, by go_num, rfl, HO5.out, HOG.out, HBQ5.out, hq1, hq2, HP.out, by omega, ?_, HK05.out⟩, by simp [intOf]; omega⟩
              have h := HC.out
              rw [toCome_touch d x q _ ⟨by omega, by omega⟩, show min x.1 q.1 = q.1 by omega, show max x.2 q.2 = q.2 by omega] at h
              exact h
        · have HT := Lib.hid ht
          by_cases h3 : q.2 < x.1
          · have c3 : ((q.2 : Nat) : Int) < ((x.1 : Nat) : Int) := by omega
            have c2 : ¬ ((x.1 : Nat) : Int) ≤ ((q.2 : Nat) : Int) := by omega
            cases d
            · go_wp2_with (first
              | (refine wl_load_pair rfl _ _ rfl G 0 q rfl _ Try.underlying36 rfl rrSz q3 q4 ?_)
              | (refine wl_build_one rfl _ _ _ rfl Try.underlying30 q (by simp; rfl) (rrBuilt q) ?_; intro m6 w6 hm6 hB6 hk6; have HB6 := Lib.hid hB6; have HK6 := Lib.hid hk6; have HO6 := Lib.hid (own_keep0 HO5.out hk6); have hsz6 : w.heap.size ≤ w6.heap.size := Nat.le_trans hsz hk6.size; clear hm6 hB6 hk6)
              | (refine wl_append_one rfl _ _ _ rfl w.heap.size 36 Try.underlying30 rrInfo u5 out rfl HO6.out m6 q rfl HB6.out (by omega) hsz6 ?_; intro v7 w7 ho7 hk7 hb7; have HO7 := Lib.hid ho7; have HK7 := Lib.hid hk7; have HV7 := Lib.hid hb7; clear ho7 hk7 hb7
                 have HB7G := Lib.hid (HBQ5.out.keep HK6.out (by simp))
                 have HK57 := Lib.hid (show Keep [] w w7 from (HK05.out.trans HK6.out).trans' HK7.out (fun y hy => by right; obtain ⟨hb, hl⟩ := own_lt HO6.out y (by simpa using hy); exact hl))
                 have HG7 := Lib.hid (show Blk w7 G 36 (pc q).toArray from HB7G.out.keep HK7.out (fun hm => HOG.out (by simpa using hm)))
                 have HM7 := Lib.hid (show Blk w7 M 36 (pc x).toArray from (HBM.out.keep HK6.out (by simp)).keep HK7.out (fun hm => HOM.out (by simpa using hm)))
                 have HOG7 := Lib.hid (show v7.ownBlock ≠ some G by
                   rcases HV7.out with h | h
                   · rw [h]; exact HOG.out
                   · rw [h]; intro hh; have h1 := HB7G.out.lt; have := Option.some.inj hh; omega)
                 obtain ⟨m3, m4⟩ := HM7.out.pair
                 have hsz7 : w.heap.size ≤ w7.heap.size := HK57.out.size)
              | (refine wl_load_pair rfl _ _ rfl M 0 x rfl _ Try.underlying36 rfl rrSz m3 m4 ?_)
              | (refine wl_build_one rfl _ _ _ rfl Try.underlying30 x (by simp; rfl) (rrBuilt x) ?_; intro m8 w8 hm8 hB8 hk8; have HB8 := Lib.hid hB8; have HK8 := Lib.hid hk8; have HO8 := Lib.hid (own_keep0 HO7.out hk8); have hsz8 : w.heap.size ≤ w8.heap.size := Nat.le_trans hsz7 hk8.size; clear hm8 hB8 hk8)
              | (refine wl_append_one rfl _ _ _ rfl w.heap.size 36 Try.underlying30 rrInfo v7 (out ++ [q]) rfl HO8.out m8 x rfl HB8.out (by simp; omega) hsz8 ?_; intro v9 w9 ho9 hk9 hb9; have HO9 := Lib.hid ho9; have HK9 := Lib.hid hk9; have HV9 := Lib.hid hb9; clear ho9 hk9 hb9))
              all_goals
                refine ⟨⟨i + 1, (out ++ [q]) ++ [x], q, true, by omega, by go_num, rfl, HO9.out, ?_, ?_, hq1, hq2, (HP.out.append (P64.one hq1 hq2)).append (P64.one hx1 hx2), by simp; omega, ?_, ?_⟩, by simp [intOf]; omega⟩
                · rcases HV9.out with h | h
                  · rw [h]; exact HOG7.out
                  · rw [h]; intro hh; have h1 := (HG7.out.keep HK8.out (by simp)).lt; have := Option.some.inj hh; omega
                · exact (HG7.out.keep HK8.out (by simp)).keep HK9.out (fun hm => HOG7.out (by simpa using hm))
                · have h := HC.out
                  rw [toCome_new x q _ HT.out h3] at h
                  simpa using h
                · exact (HK57.out.trans HK8.out).trans' HK9.out (fun y hy => by right; exact (own_lt HO8.out y (by simpa using hy)).2)
            · have m3 := m1
              have m4 := m2
              go_wp2_with (first
              | (refine wl_load_pair rfl _ _ rfl M 0 x rfl _ Try.underlying36 rfl rrSz m3 m4 ?_)
              | (refine wl_build_one rfl _ _ _ rfl Try.underlying30 x (by simp; rfl) (rrBuilt x) ?_; intro m8 w8 hm8 hB8 hk8; have HB8 := Lib.hid hB8; have HK8 := Lib.hid hk8; have HO8 := Lib.hid (own_keep0 HO5.out hk8); have hsz8 : w.heap.size ≤ w8.heap.size := Nat.le_trans hsz hk8.size; clear hm8 hB8 hk8)
              | (refine wl_append_one rfl _ _ _ rfl w.heap.size 36 Try.underlying30 rrInfo u5 out rfl HO8.out m8 x rfl HB8.out (by first | omega | (simp; omega)) hsz8 ?_; intro v9 w9 ho9 hk9 hb9; have HO9 := Lib.hid ho9; have HK9 := Lib.hid hk9; have HV9 := Lib.hid hb9; clear ho9 hk9 hb9))
              all_goals
                refine ⟨⟨i + 1, out ++ [x], q, true, by omega, by go_num, rfl, HO9.out, ?_, ?_, hq1, hq2, HP.out.append (P64.one hx1 hx2), by simp; omega, ?_, ?_⟩, by simp [intOf]; omega⟩
                · rcases HV9.out with h | h
                  · rw [h]; exact HOG.out
                  · rw [h]; intro hh; have h1 := (HBQ5.out.keep HK8.out (by simp)).lt; have := Option.some.inj hh; omega
                · exact (HBQ5.out.keep HK8.out (by simp)).keep HK9.out (fun hm => HOG.out (by simpa using hm))
                · have h := HC.out
                  rw [toCome_old true x q _ HT.out (.inl rfl)] at h
                  simpa using h
                · exact (HK05.out.trans HK8.out).trans' HK9.out (fun y hy => by right; exact (own_lt HO8.out y (by simpa using hy)).2)
          · have c3 : ¬ ((q.2 : Nat) : Int) < ((x.1 : Nat) : Int) := by omega
            have c1 : ¬ ((q.1 : Nat) : Int) ≤ ((x.2 : Nat) : Int) := by omega
            have m3 := m1
            have m4 := m2
            go_wp2_with (first
              | (refine wl_load_pair rfl _ _ rfl M 0 x rfl _ Try.underlying36 rfl rrSz m3 m4 ?_)
              | (refine wl_build_one rfl _ _ _ rfl Try.underlying30 x (by simp; rfl) (rrBuilt x) ?_; intro m8 w8 hm8 hB8 hk8; have HB8 := Lib.hid hB8; have HK8 := Lib.hid hk8; have HO8 := Lib.hid (own_keep0 HO5.out hk8); have hsz8 : w.heap.size ≤ w8.heap.size := Nat.le_trans hsz hk8.size; clear hm8 hB8 hk8)
              | (refine wl_append_one rfl _ _ _ rfl w.heap.size 36 Try.underlying30 rrInfo u5 out rfl HO8.out m8 x rfl HB8.out (by first | omega | (simp; omega)) hsz8 ?_; intro v9 w9 ho9 hk9 hb9; have HO9 := Lib.hid ho9; have HK9 := Lib.hid hk9; have HV9 := Lib.hid hb9; clear ho9 hk9 hb9))
            refine ⟨⟨i + 1, out ++ [x], q, d, by omega, by go_num, rfl, HO9.out, ?_, ?_, hq1, hq2, HP.out.append (P64.one hx1 hx2), by simp; omega, ?_, ?_⟩, by simp [intOf]; omega⟩
            · rcases HV9.out with h | h
              · rw [h]; exact HOG.out
              · rw [h]; intro hh; have h1 := (HBQ5.out.keep HK8.out (by simp)).lt; have := Option.some.inj hh; omega
            · exact (HBQ5.out.keep HK8.out (by simp)).keep HK9.out (fun hm => HOG.out (by simpa using hm))
            · have h := HC.out
              rw [toCome_old d x q _ HT.out (.inr h3)] at h
              simpa using h
            · exact (HK05.out.trans HK8.out).trans' HK9.out (fun y hy => by right; exact (own_lt HO8.out y (by simpa using hy)).2)
      · have HIN := Lib.hid (show i = n by omega)
        have hdn : l.drop i = [] := List.drop_of_length_le (by have := HN.out; have := HIN.out; omega)
        rw [hdn] at HC
        have hnl : ¬ (i : Int) < (n : Int) := by have := HIN.out; omega
        clear hdn
        have HADD := Lib.hid (show Span.addL l r = Span.add l r by unfold Span.add; rw [if_pos hrr])
        rw [HADD.out] at HC
        cases d
        · go_wp2_with (first
            | (refine wl_load_pair rfl _ _ rfl G 0 q rfl _ Try.underlying36 rfl rrSz q1 q2 ?_)
            | (refine wl_build_one rfl _ _ _ rfl Try.underlying30 q (by simp; rfl) (rrBuilt q) ?_; intro m6 w6 hm6 hB6 hk6; have HB6 := Lib.hid hB6; have HK6 := Lib.hid hk6; have HO6 := Lib.hid (own_keep0 HO.out hk6); have hsz6 : w.heap.size ≤ w6.heap.size := Nat.le_trans HK.out.size hk6.size; clear hm6 hB6 hk6)
            | (refine wl_append_one rfl _ _ _ rfl w.heap.size 36 Try.underlying30 rrInfo u5 out rfl HO6.out m6 q rfl HB6.out (by omega) hsz6 ?_; intro v7 w7 ho7 hk7 hb7; have HO7 := Lib.hid ho7; have HK7 := Lib.hid hk7; clear ho7 hk7 hb7))
          go_ret
          refine ⟨v7, rfl, S2.of_own (base := w.heap.size) (e := 36) (n := (out ++ [q]).length) ?_ ?_, .inr (fun b hb => (own_lt HO7.out b hb).2), (HK.out.trans HK6.out).trans' HK7.out (fun y hy => by right; exact (own_lt HO6.out y (by simpa using hy)).2)⟩
          · have h := HO7.out
            have h2 := HC.out
            rw [show toCome false [] q = [q] from rfl] at h2
            rw [h2] at h ⊢
            exact h
          · have h2 := HC.out
            rw [show toCome false [] q = [q] from rfl] at h2
            rw [← h2]
            exact HP.out.append (P64.one hq1 hq2)
        · have h2 := HC.out
          rw [show toCome true [] q = [] from rfl, List.append_nil] at h2
          have H2 := Lib.hid h2
          clear h2
          go_wp2_with fail
          go_ret
          refine ⟨_, rfl, ?_, .inr (fun b hb => (own_lt HO.out b hb).2), HK.out⟩
          rw [← H2.out]
          exact S2.of_own HO.out HP.out
  · have hh : ((r.2 : Nat) : Int) ≤ ((r.1 : Nat) : Int) := by omega
    go_wp2_with fail
    go_ret
    refine ⟨_, rfl, ?_, .inl rfl, HK1.out⟩
    unfold Span.add
    rw [if_neg hrr]
    have := HL.out
    rw [HN.out] at this ⊢
    exact this.keep0 HK1.out
end Go.Proofs.Ytpckbmebdhmfaaa
