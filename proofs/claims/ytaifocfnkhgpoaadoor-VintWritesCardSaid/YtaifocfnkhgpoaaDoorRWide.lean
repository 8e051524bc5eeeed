/-
  Contracts of the document's answers to Wide and Put.
-/
import Derived.Test.YtaifocfnkhgpoaaDoorWide
import Derived.Deep.RegionWith
namespace Go.Proofs.YtaifocfnkhgpoaaDoor
open Go.RowKit

/-- The tag, as a number in the first byte. -/
def topI (size : Int) : Int := if size = 1 then 0 else if size = 2 then 64 else if size = 4 then 128 else if size = 8 then 192 else -1

set_option maxHeartbeats 400000 in
theorem top_any (size : Int) (w : World) :
    Calls Tryd.prog 38 #[.int .i64 size] w fun e w' => e = .returned (.int .i64 (topI size)) ∧ w = w' := by
  by_cases h1 : size = 1
  · subst h1
    go_enter Tryd.func38, Tryd.ntmps38
    go_wp2; go_ret; exact ⟨rfl, rfl⟩
  by_cases h2 : size = 2
  · subst h2
    go_enter Tryd.func38, Tryd.ntmps38
    go_wp2; go_ret; exact ⟨rfl, rfl⟩
  by_cases h4 : size = 4
  · subst h4
    go_enter Tryd.func38, Tryd.ntmps38
    go_wp2; go_ret; exact ⟨rfl, rfl⟩
  by_cases h8 : size = 8
  · subst h8
    go_enter Tryd.func38, Tryd.ntmps38
    go_wp2; go_ret; exact ⟨rfl, rfl⟩
  have e : topI size = -1 := by simp [topI, h1, h2, h4, h8]
  have b1 : (size == 1) = false := by simpa using h1
  have b2 : (size == 2) = false := by simpa using h2
  have b4 : (size == 4) = false := by simpa using h4
  have b8 : (size == 8) = false := by simpa using h8
  rw [e]
  clear e h1 h2 h4 h8
  go_enter Tryd.func38, Tryd.ntmps38
  go_wp2; go_ret; exact ⟨rfl, rfl⟩

theorem top_fits {n size : Int} : Fits n size ↔ vlen n ≠ 0 ∧ vlen n ≤ size ∧ 0 ≤ topI size := by
  unfold Fits topI
  constructor
  · rintro ⟨h | h | h | h, h1, h2⟩ <;> subst h <;> simp [h1, h2]
  · rintro ⟨h1, h2, h3⟩
    refine ⟨?_, h1, h2⟩
    repeat' split at h3 <;> simp_all

set_option maxHeartbeats 1000000 in
theorem rwide_no (n size : Int) (w : World) (hf : ¬ Fits n size) :
    Calls Tryd.prog 14 #[.int .u64 n, .int .i64 size] w fun e w' => e = .returned (.slice none 0 0) ∧ w = w' := by
  have L := fun W => Lib.hid (rlen_any n W)
  have T := fun W => Lib.hid (top_any size W)
  rw [top_fits] at hf
  generalize vlen n = k at *
  generalize topI size = t at *
  by_cases h0 : k = 0
  · subst h0
    go_enter Tryd.func14, Tryd.ntmps14
    go_wp2_with (first
      | (go_at_call 10; with_reducible refine (L _).out.mono ?_; rintro e w' ⟨rfl, rfl⟩)
      | (go_at_call 38; with_reducible refine (T _).out.mono ?_; rintro e w' ⟨rfl, rfl⟩))
    go_ret; exact ⟨rfl, rfl⟩
  have b0 : (k == 0) = false := by simpa using h0
  by_cases h1 : size < k
  · clear hf h0
    go_enter Tryd.func14, Tryd.ntmps14
    go_wp2_with (first
      | (go_at_call 10; with_reducible refine (L _).out.mono ?_; rintro e w' ⟨rfl, rfl⟩)
      | (go_at_call 38; with_reducible refine (T _).out.mono ?_; rintro e w' ⟨rfl, rfl⟩))
    go_ret; exact ⟨rfl, rfl⟩
  · have h2 : t < 0 := by
      have : ¬ 0 ≤ t := fun h => hf ⟨h0, by omega, h⟩
      omega
    clear hf h0
    go_enter Tryd.func14, Tryd.ntmps14
    go_wp2_with (first
      | (go_at_call 10; with_reducible refine (L _).out.mono ?_; rintro e w' ⟨rfl, rfl⟩)
      | (go_at_call 38; with_reducible refine (T _).out.mono ?_; rintro e w' ⟨rfl, rfl⟩))
    go_ret; exact ⟨rfl, rfl⟩

theorem bb_add (m t : Int) (k j : Nat) (h : j ≤ k) : bb (m + t * 256 ^ k) j = bb m j := by
  induction j with
  | zero => rfl
  | succ j ih =>
    rw [bb, bb, ih (by omega)]
    congr 1
    have e : (256 : Int) ^ k = 256 ^ j * (256 ^ (k - j - 1) * 256) := by
      rw [← Int.pow_succ, ← Int.pow_add]; congr 1; omega
    rw [e, Int.mul_left_comm, Int.add_mul_ediv_left _ _ (Int.ne_of_gt (pow_pos' j)), ← Int.mul_assoc, Int.add_mul_emod_self_right]

/-- The cells of the array, with the last s - r bytes laid. -/
def laidBytes (n : Int) (s r : Nat) : List Value := List.replicate r (.int .u8 0) ++ (((bb n s).drop r).map (Value.int .u8) ++ List.replicate (8 - s) (.int .u8 0))
theorem laid_length (n : Int) (s r : Nat) (h : r ≤ s) (h8 : s ≤ 8) : (laidBytes n s r).length = 8 := by simp [laidBytes, bb_length]; omega
theorem laid_set (n : Int) (s q : Nat) (h : q < s) : (laidBytes n s (q + 1)).set q (.int .u8 (n / 256 ^ (s - (q + 1)) % 256)) = laidBytes n s q := by
  have hd : (bb n s).drop q = (n / 256 ^ (s - (q + 1)) % 256) :: (bb n s).drop (q + 1) := by
    rw [List.drop_eq_getElem_cons (by rw [bb_length]; exact h)]
    congr 1
    have := bb_get n s q h
    rw [List.getElem?_eq_getElem (by rw [bb_length]; exact h)] at this
    rw [Option.some.inj this]
    congr 3; omega
  unfold laidBytes
  rw [hd, List.set_append_left _ _ (by simp), List.replicate_succ', List.set_append_right _ _ (by simp)]
  simp
theorem enc_laid (n : Int) (s : Nat) (hs : s = 1 ∨ s = 2 ∨ s = 4 ∨ s = 8) (h0 : 0 ≤ n) (h : n < 2 ^ (8 * s - 2)) :
    (laidBytes n s 0).set 0 (.int .u8 (n / 256 ^ (s - 1) % 256 + topI s)) = (enc n s).map (Value.int .u8) ++ List.replicate (8 - s) (.int .u8 0) ∧
    0 ≤ n / 256 ^ (s - 1) % 256 ∧ n / 256 ^ (s - 1) % 256 + topI s ≤ 255 ∧ 0 ≤ topI s ∧ topI s ≤ 192 := by
  obtain ⟨k, rfl⟩ : ∃ k, s = k + 1 := ⟨s - 1, by omega⟩
  have hp := pow_pos' k
  have e0 : (2 : Int) ^ (8 * (k + 1) - 2) = 64 * 256 ^ k := by
    rw [show 8 * (k + 1) - 2 = 6 + 8 * k by omega, Int.pow_add, Int.pow_mul]; rfl
  have et : topI ((k + 1 : Nat) : Int) = tag (k + 1) * 64 := by rcases hs with h | h | h | h <;> rw [h] <;> rfl
  have htb : 0 ≤ topI ((k + 1 : Nat) : Int) ∧ topI ((k + 1 : Nat) : Int) ≤ 192 := by rcases hs with h | h | h | h <;> rw [h] <;> decide
  have hq0 : 0 ≤ n / 256 ^ k := Int.ediv_nonneg h0 (Int.le_of_lt hp)
  have hq : n / 256 ^ k < 64 := Int.ediv_lt_of_lt_mul hp (by rw [e0] at h; exact h)
  refine ⟨?_, ?_, ?_, htb.1, htb.2⟩
  · have hh : (n + tag (k + 1) * 2 ^ (8 * (k + 1) - 2)) / 256 ^ k % 256 = n / 256 ^ k % 256 + topI ((k + 1 : Nat) : Int) := by
      rw [e0, ← Int.mul_assoc, ← et, Int.add_mul_ediv_right _ _ (Int.ne_of_gt hp)]
      have := htb.2
      omega
    simp only [laidBytes, enc, bb, Nat.add_sub_cancel]
    rw [hh, e0, ← Int.mul_assoc, bb_add n _ k k (Nat.le_refl _)]
    simp
  · simp only [Nat.add_sub_cancel]; omega
  · have h2 := htb.2
    simp only [Nat.add_sub_cancel]
    omega

set_option maxHeartbeats 1000000 in
theorem rwide_yes (n : Int) (s : Nat) (w : World) (hf : Fits n s) (h0 : 0 ≤ n) (h64 : n ≤ 18446744073709551615) :
    Calls Tryd.prog 14 #[.int .u64 n, .int .i64 s] w fun e w' => ∃ v', e = .returned v' ∧ v'.ownBlock ≠ none ∧
      w'.ownsRow w.heap.size 5 1 v' s ((enc n s).map (Value.int .u8)) ∧ Keep [] w w' := by
  have L := fun W => Lib.hid (rlen_any n W)
  have T := fun W => Lib.hid (top_any s W)
  obtain ⟨_, _, hn⟩ := fits_of hf h0
  have hs : s = 1 ∨ s = 2 ∨ s = 4 ∨ s = 8 := by have := hf.1; omega
  obtain ⟨hfin, hx0, hx1, ht0, ht1⟩ := enc_laid n s hs h0 hn
  obtain ⟨hf0, hf1, hf2⟩ := top_fits.1 hf
  have b0 : (vlen n == 0) = false := by simpa using hf0
  have hs1 : 1 ≤ s := by omega
  have hs8 : s ≤ 8 := by omega
  have HF := Lib.hid hfin
  generalize vlen n = k at *
  generalize topI s = t at *
  clear hf hn hs hfin hf0
  go_enter Tryd.func14, Tryd.ntmps14
  go_wp2_with (first
    | (go_at_call 10; with_reducible refine (L _).out.mono ?_; rintro e w' ⟨rfl, rfl⟩)
    | (go_at_call 38; with_reducible refine (T _).out.mono ?_; rintro e w' ⟨rfl, rfl⟩))
  go_loopw [0, 6] (fun m i wr => ∃ r : Nat, r ≤ s ∧ i = .int .i64 ((r : Int) - 1) ∧ m = .int .u64 (n / 256 ^ (s - r)) ∧ Blk wr w.heap.size 62 (laidBytes n s r).toArray ∧ Keep [] w wr) (fun _ i _ => (intOf i + 1).toNat)
  case atStart =>
    refine ⟨s, Nat.le_refl _, rfl, by simp, ?_, (Keep.refl _ _).alloc _⟩
    have e : laidBytes n s s = List.replicate 8 (.int .u8 0) := by
      rw [laidBytes, List.drop_of_length_le (show (bb n s).length ≤ s by rw [bb_length]; omega), List.map_nil, List.nil_append, List.replicate_append_replicate, show s + (8 - s) = 8 by omega]
    rw [e]
    exact Blk.new _ _ _
  case round =>
    obtain ⟨r, hr, rfl, rfl, hB, hkeep⟩ := hrel
    cases r with
    | zero =>
      have hc0 : wr.cell? ⟨w.heap.size, 0, none⟩ = some (.int .u8 (n / 256 ^ (s - 1) % 256)) := by
        rw [hB.cell]
        have := bb_get n s 0 (by omega)
        simp [laidBytes]
        rw [List.getElem?_append_left (by simp [bb_length]; omega)]
        simp [this]
      have hf0 := hB.frozen 0
      have HB := Lib.hid hB
      clear hB
      go_wp2_with fail
      go_region_with (go_at_call 38; with_reducible refine (T _).out.mono ?_; rintro e w' ⟨rfl, rfl⟩)
      all_goals
        rw [IntWalk.u8_in t ⟨by omega, by omega⟩, IntWalk.u8_in (n / 256 ^ (s - 1) % 256 + t) ⟨by omega, by omega⟩]
        obtain ⟨W2, hW2⟩ : ∃ W2, W2 = (wr.setCell ⟨w.heap.size, 0, none⟩ (.int .u8 (n / 256 ^ (s - 1) % 256 + t))).drew := ⟨_, rfl⟩
        have hB2 : Blk W2 w.heap.size 62 ((enc n s).map (Value.int .u8) ++ List.replicate (8 - s) (Value.int .u8 0)).toArray := by
          have := (HB.out.set_ 0 (.int .u8 (n / 256 ^ (s - 1) % 256 + t))).drew
          rw [← HF.out, hW2]
          simpa using this
        have hk2 : Keep [] w W2 := by rw [hW2]; exact (hkeep.setCell (.inr (Nat.le_refl _)) _).drew
        rw [← hW2]
        have HB2 := Lib.hid hB2
        have hsl := run_slice_arr (P := Tryd.prog) Tryd.underlying62 u8one ⟨w.heap.size, 0, none⟩ .i64 s hs8 (by omega)
        clear hW2 hB2 hkeep HB hc0 hf0 HF
        go_wp2_with (at_builtin; refine wl_append _ rfl (.tmp 41) (.tmp 43) _ rfl w.heap.size 5 (.int .u8 0) 1 1 Tryd.underlying23 u8info rfl (by decide) (.slice (some ⟨W2.heap.size, 0, none⟩) 0 0) 0 [] rfl (own_base (own_of_blk (Blk.new _ _ _) rfl (Nat.le_refl _) (by omega) rfl) ?c1) (some ⟨w.heap.size, 0, none⟩) s 8 ((enc n s).map (Value.int .u8)) rfl ?c2 ?c3 (ints_one _ _) ?c4 ?c5 ?c6 ?_; rotate_right; intro v1 w1 ho1 hk1 hat1)
        case c1 => exact hk2.size
        case c2 => simp [enc, bb_length]
        case c3 =>
          have h1 := (Rd.of_blk HB2.out).take s
          rw [show ((((enc n s).map (Value.int .u8) ++ List.replicate (8 - s) (Value.int .u8 0)).toArray).toList).take s = (enc n s).map (Value.int .u8) by
            rw [List.take_append_of_le_length (by simp [enc, bb_length]), List.take_of_length_le (by simp [enc, bb_length])]] at h1
          exact h1.keep0 ((Keep.refl _ _).alloc _)
        case c4 => simp only [maxLen]; omega
        case c5 => omega
        case c6 => have := hk2.size; simp; omega
        have HO := Lib.hid ho1
        have hk3 : Keep [] w w1 := (hk2.alloc _).trans' hk1 (by intro g hg; right; simp [Value.ownBlock] at hg; have := hk2.size; omega)
        have hnn : v1.ownBlock ≠ none := by rcases hat1 with e | e <;> rw [e] <;> simp [Value.ownBlock]
        clear ho1 hat1 hk1 HB2 hk2 hsl
        go_wp2
        go_ret
        exact ⟨v1, rfl, hnn, by simpa using HO.out, hk3⟩
    | succ q =>
      have hX0 : 0 ≤ n / 256 ^ (s - (q + 1)) := Int.ediv_nonneg h0 (Int.le_of_lt (pow_pos' _))
      have hX1 : n / 256 ^ (s - (q + 1)) ≤ 18446744073709551615 := Int.le_trans (Int.ediv_le_self _ h0) h64
      have hset := laid_set n s q (by omega)
      have hc0 : wr.cell? ⟨w.heap.size, q, none⟩ = some (.int .u8 0) := by
        rw [hB.cell]
        simp [laidBytes]
        rw [List.getElem?_append_left (by simp)]
        simp
      have hf0 := hB.frozen q
      have hdiv : n / 256 ^ (s - (q + 1)) / 256 = n / 256 ^ (s - q) := by
        rw [Int.ediv_ediv_of_nonneg (Int.le_of_lt (pow_pos' _)), ← Int.pow_succ]
        congr 2; omega
      have HB := Lib.hid hB
      have HS := Lib.hid hset
      have HD := Lib.hid hdiv
      clear hB hset hdiv
      rw [show (((q + 1 : Nat) : Int) - 1) = (q : Int) by omega]
      generalize hX : n / 256 ^ (s - (q + 1)) = X at *
      clear hX
      go_wp2
      go_roundw
      case rel =>
        refine ⟨q, by omega, rfl, by rw [HD.out], ?_, hkeep.setCell (.inr (Nat.le_refl _)) _⟩
        have := HB.out.set_ q (.int .u8 (X % 256))
        rw [← HS.out]
        simpa using this
      case measure => simp [intOf]

end Go.Proofs.YtaifocfnkhgpoaaDoor
