/-
  A known block, reckoned by the kernel; a key's rounds leave unlike blocks unlike; nothing of the program.
-/
import Derived.Test.YtpjkicbfdknjcaaRAes12
namespace Go.Proofs.Ytpjkicbfdknjcaa
open Go.RowKit

namespace Aes
/-! the S-box from its table -/
def bT (x : Nat) : Nat := boxT.getD x 0
def subAtT (s : List Int) (p : Nat) : Int := ((bT (nb s (4 * ((p / 4 + p % 4) % 4) + p % 4)) : Nat) : Int)
def roundT (w : List Int) (r : Nat) (s : List Int) : List Int := add (if r < 10 then mixed ((List.range 16).map (subAtT s)) else (List.range 16).map (subAtT s)) w (16 * r)
def ktT (w : List Int) (i k : Nat) : Nat :=
  if i % 4 = 0 then (if k = 0 then bT (nb w (4 * i - 3)) ^^^ rcon (i / 4 - 1) else if k = 1 then bT (nb w (4 * i - 2)) else if k = 2 then bT (nb w (4 * i - 1)) else bT (nb w (4 * i - 4)))
  else nb w (4 * i - 4 + k)
def keysT (key : List Int) : Nat → List Int
  | 0 => key
  | n + 1 => keysT key n ++ (List.range 4).map fun k => ((nb (keysT key n) (4 * (n + 4) - 16 + k) ^^^ ktT (keysT key n) (n + 4) k : Nat) : Int)
def roundsT (w : List Int) (s : List Int) : Nat → List Int
  | 0 => s
  | r + 1 => roundT w (r + 1) (roundsT w s r)
def turnT (key block : List Int) : List Int := roundsT (keysT key 40) (add block (keysT key 40) 0) 10
theorem bT_eq (x : Nat) (h : x < 256) : box x = bT x := box_all x h
theorem kt_eq {w : List Int} (h : ∀ x ∈ w, (Lit.int .u8 x).wf = true) (i k : Nat) : kt w i k = ktT w i k := by
  unfold kt ktT
  simp only [bT_eq _ (nb_lt h _)]
theorem keys_eq {key : List Int} (h : ∀ x ∈ key, (Lit.int .u8 x).wf = true) (n : Nat) : keys key n = keysT key n := by
  induction n with
  | zero => rfl
  | succ n ih =>
    unfold keys keysT
    rw [← ih]
    congr 1
    apply List.map_congr_left
    intro k _
    unfold kword
    rw [kt_eq (keys_wf h n)]
theorem sub_eq {s : List Int} (h : ∀ x ∈ s, (Lit.int .u8 x).wf = true) : sub s = (List.range 16).map (subAtT s) := by
  unfold sub
  apply List.map_congr_left
  intro p _
  unfold subAt subAtT
  rw [bT_eq _ (nb_lt h _)]
theorem rounds_eq {w s : List Int} (hw : ∀ x ∈ w, (Lit.int .u8 x).wf = true) (hs : ∀ x ∈ s, (Lit.int .u8 x).wf = true) (n : Nat) : rounds w s n = roundsT w s n := by
  induction n with
  | zero => rfl
  | succ n ih =>
    unfold rounds roundsT
    rw [← ih]
    unfold round roundT
    rw [sub_eq (rounds_wf hw hs n)]
theorem turn_eq {k b : List Int} (hk : ∀ x ∈ k, (Lit.int .u8 x).wf = true) (hb : ∀ x ∈ b, (Lit.int .u8 x).wf = true) : turn k b = turnT k b := by
  unfold turn turnT
  rw [← keys_eq hk 40]
  exact rounds_eq (keys_wf hk 40) (add_wf hb (keys_wf hk 40) 0) 10
def key5 : List Int := (List.range 16).map fun i => ((i : Nat) : Int)
def block5 : List Int := (List.range 16).map fun i => ((17 * i : Nat) : Int)
theorem key5_wf : ∀ x ∈ key5, (Lit.int .u8 x).wf = true := by decide
theorem block5_wf : ∀ x ∈ block5, (Lit.int .u8 x).wf = true := by decide
theorem turn5_all : let t := turnT key5 block5; t[0]? = some 105 ∧ t[1]? = some 196 ∧ t[15]? = some 90 := by decide +kernel
theorem turn5 : (turn key5 block5)[0]? = some 105 ∧ (turn key5 block5)[1]? = some 196 ∧ (turn key5 block5)[15]? = some 90 := by
  rw [turn_eq key5_wf block5_wf]
  exact turn5_all

/-! unlike blocks stay unlike -/
theorem get16 (f : Nat → Int) (i : Nat) (h : i < 16) : ((List.range 16).map f).getD i 0 = f i := by
  rw [List.getD_eq_getElem?_getD, List.getElem?_map, List.getElem?_range h]; rfl
theorem nb16 (f : Nat → Nat) (i : Nat) (h : i < 16) : nb ((List.range 16).map fun j => ((f j : Nat) : Int)) i = f i := by
  unfold nb; rw [get16 _ i h]; rfl
theorem ext16 {s t : List Int} (hs : s.length = 16) (ht : t.length = 16) (hsw : ∀ x ∈ s, (Lit.int .u8 x).wf = true) (htw : ∀ x ∈ t, (Lit.int .u8 x).wf = true) (h : ∀ i, i < 16 → nb s i = nb t i) : s = t := by
  apply List.ext_getElem?
  intro i
  by_cases hi : i < 16
  · have h1 := nb_int hsw i
    have h2 := nb_int htw i
    rw [List.getD_eq_getElem?_getD] at h1 h2
    rw [List.getElem?_eq_getElem (by omega)] at h1 ⊢
    rw [List.getElem?_eq_getElem (by omega)] at h2 ⊢
    have h3 := h i hi
    simp only [Option.getD_some] at h1 h2
    rw [h1, h2, h3]
  · rw [List.getElem?_eq_none (by omega), List.getElem?_eq_none (by omega)]
theorem xor_cancel (a b c : Nat) (h : a ^^^ c = b ^^^ c) : a = b := by
  have := congrArg (· ^^^ c) h
  simpa [Nat.xor_assoc, Nat.xor_self, Nat.xor_zero] using this
theorem add_inj {s t w : List Int} {o : Nat} (hs : s.length = 16) (ht : t.length = 16) (hsw : ∀ x ∈ s, (Lit.int .u8 x).wf = true) (htw : ∀ x ∈ t, (Lit.int .u8 x).wf = true) (h : add s w o = add t w o) : s = t := by
  refine ext16 hs ht hsw htw fun i hi => ?_
  have h1 := congrArg (fun l => l.getD i 0) h
  simp only [add, get16 _ i hi, xorAt] at h1
  exact xor_cancel _ _ (nb w (o + i)) (by omega)
theorem sub_inj {s t : List Int} (hs : s.length = 16) (ht : t.length = 16) (hsw : ∀ x ∈ s, (Lit.int .u8 x).wf = true) (htw : ∀ x ∈ t, (Lit.int .u8 x).wf = true) (h : sub s = sub t) : s = t := by
  refine ext16 hs ht hsw htw fun i hi => ?_
  -- the byte i = 4 c + r of the block lies at 4 ((c + 4 - r) % 4) + r behind
  obtain ⟨p, hp⟩ : ∃ p, p = 4 * ((i / 4 + 4 - i % 4) % 4) + i % 4 := ⟨_, rfl⟩
  have h1 := congrArg (fun l => l.getD p 0) h
  simp only [sub, get16 _ p (show p < 16 by omega), subAt] at h1
  have h2 : 4 * ((p / 4 + p % 4) % 4) + p % 4 = i := by omega
  rw [h2] at h1
  exact box_inj _ _ (nb_lt hsw _) (nb_lt htw _) (by omega)
/-- A column's byte, mixed back. -/
def unN (a b c d : Nat) : Nat := ((tm 14 a ^^^ tm 11 b) ^^^ tm 13 c) ^^^ tm 9 d
theorem tm_zero' (x : Nat) : tm x 0 = 0 := by
  have := tm_xor x 0 0
  rw [Nat.xor_self, Nat.xor_self] at this
  exact this
theorem col_bits : ∀ i, i < 8 →
    (unN (mixN (2 ^ i) 0 0 0) (mixN 0 0 0 (2 ^ i)) (mixN 0 0 (2 ^ i) 0) (mixN 0 (2 ^ i) 0 0) = 2 ^ i) ∧
    (unN (mixN 0 (2 ^ i) 0 0) (mixN (2 ^ i) 0 0 0) (mixN 0 0 0 (2 ^ i)) (mixN 0 0 (2 ^ i) 0) = 0) ∧
    (unN (mixN 0 0 (2 ^ i) 0) (mixN 0 (2 ^ i) 0 0) (mixN (2 ^ i) 0 0 0) (mixN 0 0 0 (2 ^ i)) = 0) ∧
    (unN (mixN 0 0 0 (2 ^ i)) (mixN 0 0 (2 ^ i) 0) (mixN 0 (2 ^ i) 0 0) (mixN (2 ^ i) 0 0 0) = 0) := by decide +kernel
theorem mixN_xor (a b c d a' b' c' d' : Nat) : mixN (a ^^^ a') (b ^^^ b') (c ^^^ c') (d ^^^ d') = mixN a b c d ^^^ mixN a' b' c' d' := by
  unfold mixN
  rw [tm_xor, tm_xor]
  ac_rfl
theorem unN_xor (a b c d a' b' c' d' : Nat) : unN (a ^^^ a') (b ^^^ b') (c ^^^ c') (d ^^^ d') = unN a b c d ^^^ unN a' b' c' d' := by
  unfold unN
  rw [tm_xor, tm_xor, tm_xor, tm_xor]
  ac_rfl
/-- Mixed, then mixed back. -/
def colN (a b c d : Nat) : Nat := unN (mixN a b c d) (mixN b c d a) (mixN c d a b) (mixN d a b c)
theorem colN_xor (a b c d a' b' c' d' : Nat) : colN (a ^^^ a') (b ^^^ b') (c ^^^ c') (d ^^^ d') = colN a b c d ^^^ colN a' b' c' d' := by
  unfold colN
  rw [mixN_xor, mixN_xor, mixN_xor, mixN_xor, unN_xor]
theorem colN_id (a b c d : Nat) (ha : a < 256) (hb : b < 256) (hc : c < 256) (hd : d < 256) : colN a b c d = a := by
  have e1 : colN a 0 0 0 = a := lin_ext (fun x => colN x 0 0 0) (fun x => x) (fun x y => by have := colN_xor x 0 0 0 y 0 0 0; simpa using this) (fun _ _ => rfl) 8 (fun i hi => (col_bits i hi).1) a ha
  have e2 : colN 0 b 0 0 = 0 := lin_ext (fun x => colN 0 x 0 0) (fun _ => 0) (fun x y => by have := colN_xor 0 x 0 0 0 y 0 0; simpa using this) (fun _ _ => rfl) 8 (fun i hi => (col_bits i hi).2.1) b hb
  have e3 : colN 0 0 c 0 = 0 := lin_ext (fun x => colN 0 0 x 0) (fun _ => 0) (fun x y => by have := colN_xor 0 0 x 0 0 0 y 0; simpa using this) (fun _ _ => rfl) 8 (fun i hi => (col_bits i hi).2.2.1) c hc
  have e4 : colN 0 0 0 d = 0 := lin_ext (fun x => colN 0 0 0 x) (fun _ => 0) (fun x y => by have := colN_xor 0 0 0 x 0 0 0 y; simpa using this) (fun _ _ => rfl) 8 (fun i hi => (col_bits i hi).2.2.2) d hd
  have h1 := colN_xor a 0 0 0 0 b 0 0
  have h2 := colN_xor a b 0 0 0 0 c 0
  have h3 := colN_xor a b c 0 0 0 0 d
  simp only [Nat.xor_zero, Nat.zero_xor] at h1 h2 h3
  rw [h3, h2, h1, e1, e2, e3, e4]
  simp
theorem nb_mixed (t : List Int) (p : Nat) (h : p < 16) : nb (mixed t) p = mixN (nb t (p / 4 * 4 + p % 4)) (nb t (p / 4 * 4 + (p % 4 + 1) % 4)) (nb t (p / 4 * 4 + (p % 4 + 2) % 4)) (nb t (p / 4 * 4 + (p % 4 + 3) % 4)) := by
  unfold mixed nb
  rw [get16 _ p h]
  rfl
theorem mixed_inj {s t : List Int} (hs : s.length = 16) (ht : t.length = 16) (hsw : ∀ x ∈ s, (Lit.int .u8 x).wf = true) (htw : ∀ x ∈ t, (Lit.int .u8 x).wf = true) (h : mixed s = mixed t) : s = t := by
  refine ext16 hs ht hsw htw fun i hi => ?_
  have key : ∀ (t : List Int), (∀ x ∈ t, (Lit.int .u8 x).wf = true) → nb t i = unN (nb (mixed t) i) (nb (mixed t) (i / 4 * 4 + (i % 4 + 1) % 4)) (nb (mixed t) (i / 4 * 4 + (i % 4 + 2) % 4)) (nb (mixed t) (i / 4 * 4 + (i % 4 + 3) % 4)) := by
    intro t htw
    obtain ⟨c, hc⟩ : ∃ c, c = i / 4 * 4 := ⟨_, rfl⟩
    have hm := colN_id (nb t (c + i % 4)) (nb t (c + (i % 4 + 1) % 4)) (nb t (c + (i % 4 + 2) % 4)) (nb t (c + (i % 4 + 3) % 4)) (nb_lt htw _) (nb_lt htw _) (nb_lt htw _) (nb_lt htw _)
    rw [← hc, nb_mixed t i hi, nb_mixed t (c + (i % 4 + 1) % 4) (by omega), nb_mixed t (c + (i % 4 + 2) % 4) (by omega), nb_mixed t (c + (i % 4 + 3) % 4) (by omega)]
    rw [show (c + (i % 4 + 1) % 4) / 4 * 4 = c by omega, show (c + (i % 4 + 2) % 4) / 4 * 4 = c by omega, show (c + (i % 4 + 3) % 4) / 4 * 4 = c by omega, ← hc]
    rw [show (c + (i % 4 + 1) % 4) % 4 = (i % 4 + 1) % 4 by omega, show (c + (i % 4 + 2) % 4) % 4 = (i % 4 + 2) % 4 by omega, show (c + (i % 4 + 3) % 4) % 4 = (i % 4 + 3) % 4 by omega]
    rw [show ((i % 4 + 1) % 4 + 1) % 4 = (i % 4 + 2) % 4 by omega, show ((i % 4 + 1) % 4 + 2) % 4 = (i % 4 + 3) % 4 by omega, show ((i % 4 + 1) % 4 + 3) % 4 = i % 4 by omega]
    rw [show ((i % 4 + 2) % 4 + 1) % 4 = (i % 4 + 3) % 4 by omega, show ((i % 4 + 2) % 4 + 2) % 4 = i % 4 by omega, show ((i % 4 + 2) % 4 + 3) % 4 = (i % 4 + 1) % 4 by omega]
    rw [show ((i % 4 + 3) % 4 + 1) % 4 = i % 4 by omega, show ((i % 4 + 3) % 4 + 2) % 4 = (i % 4 + 1) % 4 by omega, show ((i % 4 + 3) % 4 + 3) % 4 = (i % 4 + 2) % 4 by omega]
    rw [show c + i % 4 = i by omega] at hm ⊢
    exact hm.symm
  rw [key s hsw, key t htw, h]
theorem round_inj {w s t : List Int} (r : Nat) (hs : s.length = 16) (ht : t.length = 16) (hsw : ∀ x ∈ s, (Lit.int .u8 x).wf = true) (htw : ∀ x ∈ t, (Lit.int .u8 x).wf = true) (h : round w r s = round w r t) : s = t := by
  unfold round at h
  refine sub_inj hs ht hsw htw ?_
  by_cases hr : r < 10
  · rw [if_pos hr, if_pos hr] at h
    exact mixed_inj (by simp [sub]) (by simp [sub]) (sub_wf s) (sub_wf t) (add_inj (by simp [mixed]) (by simp [mixed]) (mixed_wf (sub_wf s)) (mixed_wf (sub_wf t)) h)
  · rw [if_neg hr, if_neg hr] at h
    exact add_inj (by simp [sub]) (by simp [sub]) (sub_wf s) (sub_wf t) h
theorem rounds_inj {w s t : List Int} (hw : ∀ x ∈ w, (Lit.int .u8 x).wf = true) (n : Nat) (hs : s.length = 16) (ht : t.length = 16) (hsw : ∀ x ∈ s, (Lit.int .u8 x).wf = true) (htw : ∀ x ∈ t, (Lit.int .u8 x).wf = true) (h : rounds w s n = rounds w t n) : s = t := by
  induction n with
  | zero => exact h
  | succ n ih => exact ih (round_inj (n + 1) (rounds_length hs n) (rounds_length ht n) (rounds_wf hw hsw n) (rounds_wf hw htw n) h)
theorem turn_inj {k a b : List Int} (hk : ∀ x ∈ k, (Lit.int .u8 x).wf = true) (ha : a.length = 16) (hb : b.length = 16) (haw : ∀ x ∈ a, (Lit.int .u8 x).wf = true) (hbw : ∀ x ∈ b, (Lit.int .u8 x).wf = true) (h : turn k a = turn k b) : a = b :=
  add_inj ha hb haw hbw (rounds_inj (keys_wf hk 40) 10 (by simp [add]) (by simp [add]) (add_wf haw (keys_wf hk 40) 0) (add_wf hbw (keys_wf hk 40) 0) h)
end Aes
end Go.Proofs.Ytpjkicbfdknjcaa
