/-
  Round keys one behind the other, as the landed aes makes them; arrays in the middle of a block.
-/
import Derived.Test.YtpjkicbfdknjcaaA5
import Derived.Deep.MidRow
namespace Go.Proofs.Ytpjkicbfdknjcaa
open Go.RowKit

theorem nb_right (p X : List Int) (i j : Nat) (h : j = p.length + i) : nb (p ++ X) j = nb X i := by
  subst h
  unfold nb
  rw [List.getD_eq_getElem?_getD, List.getElem?_append_right (by omega), Nat.add_sub_cancel_left, List.getD_eq_getElem?_getD]
theorem nb_left (p X : List Int) (i : Nat) (h : i < p.length) : nb (p ++ X) i = nb p i := by
  unfold nb
  rw [List.getD_eq_getElem?_getD, List.getElem?_append_left h, List.getD_eq_getElem?_getD]
theorem nb_map (f : Nat → Int) (n i : Nat) (h : i < n) : nb ((List.range n).map f) i = (f i).toNat := by
  unfold nb
  simp [h]

namespace Aes
theorem keys_in (key : List Int) (r : Nat) (pre l : List Int) (hpre : pre.length = 16 * r) (hl : l.length = 16) (hW : keys key (4 * r) = pre ++ l) :
    ∀ j, j ≤ 4 → keys key (4 * r + j) = pre ++ (l ++ (List.range (4 * j)).map (foAt l (rcon r)))
  | 0, _ => by rw [Nat.add_zero, hW]; simp
  | j + 1, hj => by
    have ih := keys_in key r pre l hpre hl hW j (by omega)
    show keys key (4 * r + j) ++ (List.range 4).map (kword (keys key (4 * r + j)) (4 * r + j + 4)) = _
    rw [ih, List.append_assoc, List.append_assoc]
    congr 2
    rw [show 4 * (j + 1) = 4 * j + 4 by omega, List.range_add, List.map_append, List.map_map]
    congr 1
    refine List.map_congr_left fun k hk => ?_
    have hk : k < 4 := by simpa using hk
    generalize hX : l ++ (List.range (4 * j)).map (foAt l (rcon r)) = X
    have h1 : nb (pre ++ X) (4 * (4 * r + j + 4) - 16 + k) = nb l (4 * j + k) := by
      rw [nb_right pre X (4 * j + k) _ (by omega), ← hX, nb_left _ _ _ (by omega)]
    unfold kword
    rw [h1]
    show _ = foAt l (rcon r) (4 * j + k)
    unfold kt
    rcases Nat.eq_zero_or_pos j with rfl | hj0
    · rw [if_pos (by omega)]
      have hx : X = l := by rw [← hX]; simp
      have e1 : nb (pre ++ X) (4 * (4 * r + 0 + 4) - 3) = nb l 13 := by rw [nb_right pre X 13 _ (by omega), hx]
      have e2 : nb (pre ++ X) (4 * (4 * r + 0 + 4) - 2) = nb l 14 := by rw [nb_right pre X 14 _ (by omega), hx]
      have e3 : nb (pre ++ X) (4 * (4 * r + 0 + 4) - 1) = nb l 15 := by rw [nb_right pre X 15 _ (by omega), hx]
      have e4 : nb (pre ++ X) (4 * (4 * r + 0 + 4) - 4) = nb l 12 := by rw [nb_right pre X 12 _ (by omega), hx]
      rw [e1, e2, e3, e4, show (4 * r + 0 + 4) / 4 - 1 = r by omega]
      rcases (show k = 0 ∨ k = 1 ∨ k = 2 ∨ k = 3 by omega) with rfl | rfl | rfl | rfl
      · simp [foAt, fo, Nat.xor_assoc]
      · simp [foAt, fo]
      · simp [foAt, fo]
      · simp [foAt, fo]
    · rw [if_neg (by omega)]
      have h2 : nb (pre ++ X) (4 * (4 * r + j + 4) - 4 + k) = (foAt l (rcon r) (4 * j + k - 4)).toNat := by
        rw [nb_right pre X (16 + (4 * j + k - 4)) _ (by omega), ← hX, nb_right l _ (4 * j + k - 4) _ (by omega), nb_map _ _ _ (by omega)]
      rw [h2, ← foAt_next _ _ (by omega)]
/-- The last round key of so many. -/
def rk (key : List Int) (r : Nat) : List Int := (keys key (4 * r)).drop (16 * r)
theorem rk_length (key : List Int) (h : key.length = 16) (r : Nat) : (rk key r).length = 16 := by unfold rk; rw [List.length_drop, keys_length, h]; omega
theorem rk_zero (key : List Int) : rk key 0 = key := rfl
theorem keys_next (key : List Int) (h : key.length = 16) (r : Nat) : keys key (4 * (r + 1)) = keys key (4 * r) ++ foll (rk key r) (rcon r) := by
  have hW : keys key (4 * r) = (keys key (4 * r)).take (16 * r) ++ rk key r := (List.take_append_drop _ _).symm
  have := keys_in key r _ _ (by rw [List.length_take_of_le (by rw [keys_length, h]; omega)]) (rk_length key h r) hW 4 (Nat.le_refl 4)
  rw [show 4 * (r + 1) = 4 * r + 4 by omega, this, ← List.append_assoc, ← hW]
  rfl
theorem rk_next (key : List Int) (h : key.length = 16) (r : Nat) : rk key (r + 1) = foll (rk key r) (rcon r) := by
  rw [rk, keys_next key h r, List.drop_append, keys_length, h, List.drop_of_length_le (by rw [keys_length, h]; omega), show 16 * (r + 1) - (16 + 4 * (4 * r)) = 0 by omega]
  rfl
theorem rk_wf {key : List Int} (hw : ∀ x ∈ key, (Lit.int .u8 x).wf = true) (r : Nat) : ∀ x ∈ rk key r, (Lit.int .u8 x).wf = true := fun x hx => keys_wf hw (4 * r) x (List.mem_of_mem_drop hx)
theorem keys_take (key : List Int) (h : key.length = 16) : ∀ m r, ∃ X, keys key (4 * (r + m)) = keys key (4 * r) ++ X
  | 0, r => ⟨[], by simp⟩
  | m + 1, r => by
    obtain ⟨X, hX⟩ := keys_take key h m r
    exact ⟨X ++ foll (rk key (r + m)) (rcon (r + m)), by rw [← Nat.add_assoc, keys_next key h (r + m), hX, List.append_assoc]⟩
theorem add_rk (s key : List Int) (h : key.length = 16) (r : Nat) (hr : r ≤ 10) : add s (keys key 40) (16 * r) = add s (rk key r) 0 := by
  obtain ⟨X, hX⟩ := keys_take key h (10 - r) r
  rw [show 4 * (r + (10 - r)) = 40 by omega] at hX
  have hW : keys key (4 * r) = (keys key (4 * r)).take (16 * r) ++ rk key r := (List.take_append_drop _ _).symm
  unfold add
  refine List.map_congr_left fun i hi => ?_
  have hi : i < 16 := by simpa using hi
  unfold xorAt
  rw [hX, nb_left _ _ _ (by rw [keys_length, h]; omega), hW, nb_right _ (rk key r) i _ (by rw [List.length_take_of_le (by rw [keys_length, h]; omega)]), Nat.zero_add]
end Aes

section
variable {P : Program}
theorem Blk.setCells {b t : Nat} : ∀ (vs pre old post : List Value) (w : World), old.length = vs.length → Blk w b t (pre ++ (old ++ post)).toArray → Blk (w.setCells b pre.length vs) b t (pre ++ (vs ++ post)).toArray
  | [], pre, old, post, w, h, hB => by
    obtain rfl : old = [] := List.eq_nil_of_length_eq_zero h
    exact hB
  | v :: vs, pre, [], post, w, h, hB => by simp at h
  | v :: vs, pre, o :: old, post, w, h, hB => by
    have h1 := hB.set_ pre.length v
    rw [List.setIfInBounds_toArray, List.set_append_right _ _ (Nat.le_refl _), Nat.sub_self] at h1
    have h2 := Blk.setCells vs (pre ++ [v]) old post (w.setCell ⟨b, pre.length, none⟩ v) (by simpa using h) (by simpa using h1)
    simpa [World.setCells] using h2
theorem Keep.setCells {S : List Nat} {w0 : World} {b : Nat} : ∀ (vs : List Value) (o : Nat) (w : World), Keep S w0 w → (b ∈ S ∨ w0.heap.size ≤ b) → Keep S w0 (w.setCells b o vs)
  | [], _, _, h, _ => h
  | v :: vs, o, w, h, hb => by
    have := Keep.setCells vs (o + 1) (w.setCell ⟨b, o, none⟩ v) (h.setCell hb v) hb
    simpa [World.setCells] using this
/-- An array in the middle of a block: loaded. -/
theorem ow_load_mid {o : Oper} {a : Act} {w : World} {K : Act → World → Prop} {Q : Exit → Act → World → Prop} (ty : TypeId) (x : Operand) (ho : o.op = .load ty x) (b : Nat) (pre l post : List Value) (off : Nat) (hoff : off = pre.length)
    (hx : a.eval x = .pointer (some ⟨b, off, none⟩)) (n : Nat) (e : TypeId) (hu : P.underlying ty = some (.array n e)) (hi : (P.info? ty).map (·.size) = some l.length) (t : TypeId) (hB : Blk w b t (pre ++ (l ++ post)).toArray)
    (h : K (a.put o.dst (.agg l.toArray)) w) : o.wp P a w K Q := by
  subst hoff
  refine wp_load_mid ty x ho b _ hx l _ ?_ hu rfl hi h
  intro j v hv
  have hj := (List.getElem?_eq_some_iff.1 hv).1
  rw [hB.cell]
  simp only [List.getElem?_toArray]
  rw [List.getElem?_append_right (by omega), Nat.add_sub_cancel_left, List.getElem?_append_left hj]
  exact hv
/-- An array into the middle of a block. -/
theorem ow_store_mid {o : Oper} {a : Act} {w : World} {K : Act → World → Prop} {Q : Exit → Act → World → Prop} (ty : TypeId) (x y : Operand) (ho : o.op = .store ty x y) (b : Nat) (pre old post : List Value) (D : Array Value) (off : Nat) (hoff : off = pre.length)
    (hx : a.eval x = .pointer (some ⟨b, off, none⟩)) (hy : a.eval y = .agg D) (hi : (P.info? ty).map (·.size) = some D.size) (hold : old.length = D.size) (h1 : D.all (·.oneCell') = true) (t : TypeId) (hB : Blk w b t (pre ++ (old ++ post)).toArray)
    (h : ∀ w', Blk w' b t (pre ++ (D.toList ++ post)).toArray → Keep [b] w w' → K (a.put o.dst undef) w') : o.wp P a w K Q := by
  subst hoff
  refine wp_store_mid ty x y ho b _ D hx hy ?_ hi h1 (h _ (Blk.setCells D.toList pre old post w (by simpa using hold) hB) (Keep.setCells _ _ _ (Keep.refl _ _) (.inl (by simp))))
  intro j hj
  refine ⟨?_, hB.frozen _⟩
  rw [hB.cell]
  simp only [List.getElem?_toArray]
  rw [List.getElem?_append_right (by omega), Nat.add_sub_cancel_left, List.getElem?_append_left (by omega), List.getElem?_eq_getElem (by omega)]
  rfl
end
end Go.Proofs.Ytpjkicbfdknjcaa
