/-
  Blocks of bytes: pure functions, and what holds of them; nothing of the program.
-/
import Derived.Test.YtlkjngbelckgkaaAesBox
import Derived.Test.YtlkjngbelckgkaaNum
namespace Go.Proofs.Ytlkjngbelckgkaa
open Go.RowKit

/-- The first n are f's, the others s's. -/
def upd (f : Nat → Int) (s : List Int) (n : Nat) : List Int := (List.range n).map f ++ s.drop n
theorem upd_zero (f : Nat → Int) (s : List Int) : upd f s 0 = s := by simp [upd]
theorem upd_length (f : Nat → Int) (s : List Int) (n : Nat) (h : n ≤ s.length) : (upd f s n).length = s.length := by simp [upd]; omega
theorem upd_set (f : Nat → Int) (s : List Int) (n : Nat) (h : n < s.length) : (upd f s n).set n (f n) = upd f s (n + 1) := by
  unfold upd
  rw [List.set_append_right _ _ (by simp)]
  simp only [List.length_map, List.length_range, Nat.sub_self]
  rw [List.range_succ, List.map_append, List.append_assoc]
  congr 1
  rw [List.drop_eq_getElem_cons h]
  rfl
theorem upd_full (f : Nat → Int) (s : List Int) (n : Nat) (h : s.length = n) : upd f s n = (List.range n).map f := by
  unfold upd; rw [List.drop_of_length_le (by omega), List.append_nil]
theorem upd_get (f : Nat → Int) (s : List Int) (n j : Nat) (h : n ≤ j) : (upd f s n).getD j 0 = s.getD j 0 := by
  unfold upd
  rw [List.getD_eq_getElem?_getD, List.getElem?_append_right (by simpa using h), List.length_map, List.length_range, List.getElem?_drop, List.getD_eq_getElem?_getD]
  congr 2
  omega
theorem upd_put (f : Nat → Int) (n j : Nat) (h : n ≤ j) (hj : j < 16) : ((upd f (List.replicate 16 0) n).map (Value.int .u8)).toArray[j]? = some (.int .u8 0) := by
  have h1 := upd_get f (List.replicate 16 0) n j h
  have h2 := upd_length f (List.replicate 16 0) n (by simp; omega)
  rw [List.length_replicate] at h2
  rw [List.getD_eq_getElem?_getD, List.getElem?_eq_getElem (by omega)] at h1
  simp only [List.getElem?_toArray, List.getElem?_map, List.getElem?_eq_getElem (show j < (upd f (List.replicate 16 0) n).length by omega), Option.map_some, Option.some.injEq]
  rw [show (upd f (List.replicate 16 0) n)[j]'(by omega) = 0 from h1.trans (by rw [List.getD_eq_getElem?_getD, List.getElem?_replicate, if_pos hj]; rfl)]
theorem Blk.upd {w : World} {G ty : Nat} {f : Nat → Int} {s : List Int} {n : Nat} (h : Blk w G ty ((upd f s n).map (Value.int .u8)).toArray) (hn : n < s.length) {v : Int} (hv : v = f n) : Blk (w.setCell ⟨G, n, none⟩ (.int .u8 v)) G ty ((upd f s (n + 1)).map (Value.int .u8)).toArray := by
  subst hv
  have := h.set_ n (.int .u8 (f n))
  rwa [List.setIfInBounds_toArray, ← List.map_set, upd_set f s n hn] at this
theorem upd_wf (f : Nat → Int) (s : List Int) (n : Nat) (hf : ∀ i, (Lit.int .u8 (f i)).wf = true) (hs : ∀ x ∈ s, (Lit.int .u8 x).wf = true) : ∀ x ∈ upd f s n, (Lit.int .u8 x).wf = true := by
  intro x hx
  rcases List.mem_append.1 hx with h | h
  · obtain ⟨i, _, rfl⟩ := List.mem_map.1 h
    exact hf i
  · exact hs x (List.mem_of_mem_drop h)
theorem map_wf (f : Nat → Int) (n : Nat) (hf : ∀ i, (Lit.int .u8 (f i)).wf = true) : ∀ x ∈ (List.range n).map f, (Lit.int .u8 x).wf = true := by
  intro x hx
  obtain ⟨i, _, rfl⟩ := List.mem_map.1 hx
  exact hf i
def nb (l : List Int) (j : Nat) : Nat := (l.getD j 0).toNat
theorem nb_lt {l : List Int} (h : ∀ x ∈ l, (Lit.int .u8 x).wf = true) (j : Nat) : nb l j < 256 := by
  unfold nb
  rw [List.getD_eq_getElem?_getD]
  by_cases hj : j < l.length
  · have := wf_u8 (wf_getD h j hj)
    omega
  · rw [List.getElem?_eq_none (by omega)]; decide
theorem nb_int {l : List Int} (h : ∀ x ∈ l, (Lit.int .u8 x).wf = true) (j : Nat) : l.getD j 0 = ((nb l j : Nat) : Int) := by
  unfold nb
  rw [List.getD_eq_getElem?_getD]
  by_cases hj : j < l.length
  · have := wf_u8 (wf_getD h j hj)
    omega
  · rw [List.getElem?_eq_none (by omega)]; decide

namespace Aes
/-- A column's byte, mixed. -/
def mixN (a b c d : Nat) : Nat := ((tm 2 a ^^^ tm 3 b) ^^^ c) ^^^ d
theorem mixN_lt (a b c d : Nat) (hc : c < 256) (hd : d < 256) : mixN a b c d < 256 :=
  Nat.xor_lt_two_pow (n := 8) (Nat.xor_lt_two_pow (n := 8) (Nat.xor_lt_two_pow (n := 8) (tm_lt _ _) (tm_lt _ _)) hc) hd
theorem mix_int (a b c d : Nat) (hc : c < 256) (hd : d < 256) : bits .xor .u8 (bits .xor .u8 (bits .xor .u8 ((tm 2 a : Nat) : Int) ((tm 3 b : Nat) : Int)) (c : Int)) (d : Int) = ((mixN a b c d : Nat) : Int) := by
  have h1 := Nat.xor_lt_two_pow (n := 8) (tm_lt 2 a) (tm_lt 3 b)
  have h2 := Nat.xor_lt_two_pow (n := 8) h1 hc
  rw [u8_xor_nat _ _ (tm_lt _ _) (tm_lt _ _), u8_xor_nat _ _ h1 hc, u8_xor_nat _ _ h2 hd]
  rfl
def mixAt (t : List Int) (p : Nat) : Int := ((mixN (nb t (p / 4 * 4 + p % 4)) (nb t (p / 4 * 4 + (p % 4 + 1) % 4)) (nb t (p / 4 * 4 + (p % 4 + 2) % 4)) (nb t (p / 4 * 4 + (p % 4 + 3) % 4)) : Nat) : Int)
def mixed (t : List Int) : List Int := (List.range 16).map (mixAt t)
def xorAt (s w : List Int) (o i : Nat) : Int := ((nb s i ^^^ nb w (o + i) : Nat) : Int)
def subAt (s : List Int) (p : Nat) : Int := ((box (nb s (4 * ((p / 4 + p % 4) % 4) + p % 4)) : Nat) : Int)
def sub (s : List Int) : List Int := (List.range 16).map (subAt s)
def add (s w : List Int) (o : Nat) : List Int := (List.range 16).map (xorAt s w o)
/-- A round of the ten. -/
def round (w : List Int) (r : Nat) (s : List Int) : List Int := add (if r < 10 then mixed (sub s) else sub s) w (16 * r)
def rcon : Nat → Nat
  | 0 => 1
  | j + 1 => tm (rcon j) 2
/-- The word that the i-th one is made with. -/
def kt (w : List Int) (i k : Nat) : Nat :=
  if i % 4 = 0 then (if k = 0 then box (nb w (4 * i - 3)) ^^^ rcon (i / 4 - 1) else if k = 1 then box (nb w (4 * i - 2)) else if k = 2 then box (nb w (4 * i - 1)) else box (nb w (4 * i - 4)))
  else nb w (4 * i - 4 + k)
def kword (w : List Int) (i k : Nat) : Int := ((nb w (4 * i - 16 + k) ^^^ kt w i k : Nat) : Int)
/-- The key and n words more. -/
def keys (key : List Int) : Nat → List Int
  | 0 => key
  | n + 1 => keys key n ++ (List.range 4).map (kword (keys key n) (n + 4))
def rounds (w : List Int) (s : List Int) : Nat → List Int
  | 0 => s
  | r + 1 => round w (r + 1) (rounds w s r)
def turn (key block : List Int) : List Int := rounds (keys key 40) (add block (keys key 40) 0) 10

theorem mixAt_wf {t : List Int} (h : ∀ x ∈ t, (Lit.int .u8 x).wf = true) (p : Nat) : (Lit.int .u8 (mixAt t p)).wf = true := by
  have := mixN_lt (nb t (p / 4 * 4 + p % 4)) (nb t (p / 4 * 4 + (p % 4 + 1) % 4)) _ _ (nb_lt h (p / 4 * 4 + (p % 4 + 2) % 4)) (nb_lt h (p / 4 * 4 + (p % 4 + 3) % 4))
  exact u8_wf (by unfold mixAt; omega) (by unfold mixAt; omega)
theorem xorAt_wf {s w : List Int} (hs : ∀ x ∈ s, (Lit.int .u8 x).wf = true) (hw : ∀ x ∈ w, (Lit.int .u8 x).wf = true) (o i : Nat) : (Lit.int .u8 (xorAt s w o i)).wf = true := by
  have := Nat.xor_lt_two_pow (n := 8) (nb_lt hs i) (nb_lt hw (o + i))
  exact u8_wf (by unfold xorAt; omega) (by unfold xorAt; omega)
theorem subAt_wf (s : List Int) (p : Nat) : (Lit.int .u8 (subAt s p)).wf = true := by
  have := box_lt (nb s (4 * ((p / 4 + p % 4) % 4) + p % 4))
  exact u8_wf (by unfold subAt; omega) (by unfold subAt; omega)
theorem rcon_lt (j : Nat) : rcon j < 256 := by
  cases j with
  | zero => exact (by decide : (1 : Nat) < 256)
  | succ j => exact tm_lt _ _
theorem kt_lt {w : List Int} (h : ∀ x ∈ w, (Lit.int .u8 x).wf = true) (i k : Nat) : kt w i k < 256 := by
  unfold kt
  split
  · split
    · exact Nat.xor_lt_two_pow (n := 8) (box_lt _) (rcon_lt _)
    · split
      · exact box_lt _
      · split <;> exact box_lt _
  · exact nb_lt h _
theorem kword_wf {w : List Int} (h : ∀ x ∈ w, (Lit.int .u8 x).wf = true) (i k : Nat) : (Lit.int .u8 (kword w i k)).wf = true := by
  have := Nat.xor_lt_two_pow (n := 8) (nb_lt h (4 * i - 16 + k)) (kt_lt h i k)
  exact u8_wf (by unfold kword; omega) (by unfold kword; omega)
theorem keys_wf {key : List Int} (h : ∀ x ∈ key, (Lit.int .u8 x).wf = true) (n : Nat) : ∀ x ∈ keys key n, (Lit.int .u8 x).wf = true := by
  induction n with
  | zero => exact h
  | succ n ih =>
    intro x hx
    rcases List.mem_append.1 hx with h1 | h1
    · exact ih x h1
    · exact map_wf _ _ (kword_wf ih _) x h1
theorem keys_length (key : List Int) (n : Nat) : (keys key n).length = key.length + 4 * n := by
  induction n with
  | zero => rfl
  | succ n ih => simp [keys, ih]; omega
theorem sub_wf (s : List Int) : ∀ x ∈ sub s, (Lit.int .u8 x).wf = true := map_wf _ _ (subAt_wf s)
theorem mixed_wf {t : List Int} (h : ∀ x ∈ t, (Lit.int .u8 x).wf = true) : ∀ x ∈ mixed t, (Lit.int .u8 x).wf = true := map_wf _ _ (mixAt_wf h)
theorem add_wf {s w : List Int} (hs : ∀ x ∈ s, (Lit.int .u8 x).wf = true) (hw : ∀ x ∈ w, (Lit.int .u8 x).wf = true) (o : Nat) : ∀ x ∈ add s w o, (Lit.int .u8 x).wf = true := map_wf _ _ (xorAt_wf hs hw o)
theorem round_wf {w : List Int} (hw : ∀ x ∈ w, (Lit.int .u8 x).wf = true) (r : Nat) (s : List Int) : ∀ x ∈ round w r s, (Lit.int .u8 x).wf = true := by
  unfold round
  refine add_wf ?_ hw _
  split
  · exact mixed_wf (sub_wf s)
  · exact sub_wf s
theorem rounds_wf {w s : List Int} (hw : ∀ x ∈ w, (Lit.int .u8 x).wf = true) (hs : ∀ x ∈ s, (Lit.int .u8 x).wf = true) (r : Nat) : ∀ x ∈ rounds w s r, (Lit.int .u8 x).wf = true := by
  cases r with
  | zero => exact hs
  | succ r => exact round_wf hw _ _
theorem rounds_length {w s : List Int} (hs : s.length = 16) (r : Nat) : (rounds w s r).length = 16 := by
  cases r with
  | zero => exact hs
  | succ r => simp [rounds, round, add]
theorem turn_length (k b : List Int) : (turn k b).length = 16 := rounds_length (by simp [add]) _
theorem turn_wf {k b : List Int} (hk : ∀ x ∈ k, (Lit.int .u8 x).wf = true) (hb : ∀ x ∈ b, (Lit.int .u8 x).wf = true) : ∀ x ∈ turn k b, (Lit.int .u8 x).wf = true := rounds_wf (keys_wf hk 40) (add_wf hb (keys_wf hk 40) 0) 10
end Aes
end Go.Proofs.Ytlkjngbelckgkaa
