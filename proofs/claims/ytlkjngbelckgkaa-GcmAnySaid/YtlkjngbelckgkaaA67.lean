/-
  Round keys one behind the other, as the landed aes makes them; arrays in the middle of a block.
  Frames of the landed functions' sizes, opened.
  The landed aes: the drawn regions of Key and Turn.
-/
import Derived.Test.YtlkjngbelckgkaaA345
import Derived.Deep.MidRow
import Derived.Test.YtlkjngbelckgkaaGen
namespace Go.Proofs.Ytlkjngbelckgkaa
open Go.RowKit

theorem nb_right (p X : List Int) (i j : Nat) (h : j = p.length + i) : nb (p ++ X) j = nb X i := by
  subst h
  unfold nb
  rw [List.getD_eq_getElem?_getD, List.getElem?_append_right (by omega), Nat.add_sub_cancel_left, List.getD_eq_getElem?_getD]
theorem nb_left (p X : List Int) (i : Nat) (h : i < p.length) : nb (p ++ X) i = nb p i := by
  unfold nb
  rw [List.getD_eq_getElem?_getD, List.getElem?_append_left h, List.getD_eq_getElem?_getD]
theorem nb_map (f : Nat → Int) (n i : Nat) (h : i < n) : nb ((List.range n).map f) i = (f i).toNat := by
  unfold nb
  simp [h]

namespace Aes
theorem keys_in (key : List Int) (r : Nat) (pre l : List Int) (hpre : pre.length = 16 * r) (hl : l.length = 16) (hW : keys key (4 * r) = pre ++ l) :
    ∀ j, j ≤ 4 → keys key (4 * r + j) = pre ++ (l ++ (List.range (4 * j)).map (foAt l (rcon r)))
  | 0, _ => by rw [Nat.add_zero, hW]; simp
  | j + 1, hj => by
    have ih := keys_in key r pre l hpre hl hW j (by omega)
    show keys key (4 * r + j) ++ (List.range 4).map (kword (keys key (4 * r + j)) (4 * r + j + 4)) = _
    rw [ih, List.append_assoc, List.append_assoc]
    congr 2
    rw [show 4 * (j + 1) = 4 * j + 4 by omega, List.range_add, List.map_append, List.map_map]
    congr 1
    refine List.map_congr_left fun k hk => ?_
    have hk : k < 4 := by simpa using hk
    generalize hX : l ++ (List.range (4 * j)).map (foAt l (rcon r)) = X
    have h1 : nb (pre ++ X) (4 * (4 * r + j + 4) - 16 + k) = nb l (4 * j + k) := by
      rw [nb_right pre X (4 * j + k) _ (by omega), ← hX, nb_left _ _ _ (by omega)]
    unfold kword
    rw [h1]
    show _ = foAt l (rcon r) (4 * j + k)
    unfold kt
    rcases Nat.eq_zero_or_pos j with rfl | hj0
    · rw [if_pos (by omega)]
      have hx : X = l := by rw [← hX]; simp
      have e1 : nb (pre ++ X) (4 * (4 * r + 0 + 4) - 3) = nb l 13 := by rw [nb_right pre X 13 _ (by omega), hx]
      have e2 : nb (pre ++ X) (4 * (4 * r + 0 + 4) - 2) = nb l 14 := by rw [nb_right pre X 14 _ (by omega), hx]
      have e3 : nb (pre ++ X) (4 * (4 * r + 0 + 4) - 1) = nb l 15 := by rw [nb_right pre X 15 _ (by omega), hx]
      have e4 : nb (pre ++ X) (4 * (4 * r + 0 + 4) - 4) = nb l 12 := by rw [nb_right pre X 12 _ (by omega), hx]
      rw [e1, e2, e3, e4, show (4 * r + 0 + 4) / 4 - 1 = r by omega]
      rcases (show k = 0 ∨ k = 1 ∨ k = 2 ∨ k = 3 by omega) with rfl | rfl | rfl | rfl
      · simp [foAt, fo, Nat.xor_assoc]
      · simp [foAt, fo]
      · simp [foAt, fo]
      · simp [foAt, fo]
    · rw [if_neg (by omega)]
      have h2 : nb (pre ++ X) (4 * (4 * r + j + 4) - 4 + k) = (foAt l (rcon r) (4 * j + k - 4)).toNat := by
        rw [nb_right pre X (16 + (4 * j + k - 4)) _ (by omega), ← hX, nb_right l _ (4 * j + k - 4) _ (by omega), nb_map _ _ _ (by omega)]
      rw [h2, ← foAt_next _ _ (by omega)]
/-- The last round key of so many. -/
def rk (key : List Int) (r : Nat) : List Int := (keys key (4 * r)).drop (16 * r)
theorem rk_length (key : List Int) (h : key.length = 16) (r : Nat) : (rk key r).length = 16 := by unfold rk; rw [List.length_drop, keys_length, h]; omega
theorem rk_zero (key : List Int) : rk key 0 = key := rfl
theorem keys_next (key : List Int) (h : key.length = 16) (r : Nat) : keys key (4 * (r + 1)) = keys key (4 * r) ++ foll (rk key r) (rcon r) := by
  have hW : keys key (4 * r) = (keys key (4 * r)).take (16 * r) ++ rk key r := (List.take_append_drop _ _).symm
  have := keys_in key r _ _ (by rw [List.length_take_of_le (by rw [keys_length, h]; omega)]) (rk_length key h r) hW 4 (Nat.le_refl 4)
  rw [show 4 * (r + 1) = 4 * r + 4 by omega, this, ← List.append_assoc, ← hW]
  rfl
theorem rk_next (key : List Int) (h : key.length = 16) (r : Nat) : rk key (r + 1) = foll (rk key r) (rcon r) := by
  rw [rk, keys_next key h r, List.drop_append, keys_length, h, List.drop_of_length_le (by rw [keys_length, h]; omega), show 16 * (r + 1) - (16 + 4 * (4 * r)) = 0 by omega]
  rfl
theorem rk_wf {key : List Int} (hw : ∀ x ∈ key, (Lit.int .u8 x).wf = true) (r : Nat) : ∀ x ∈ rk key r, (Lit.int .u8 x).wf = true := fun x hx => keys_wf hw (4 * r) x (List.mem_of_mem_drop hx)
theorem keys_take (key : List Int) (h : key.length = 16) : ∀ m r, ∃ X, keys key (4 * (r + m)) = keys key (4 * r) ++ X
  | 0, r => ⟨[], by simp⟩
  | m + 1, r => by
    obtain ⟨X, hX⟩ := keys_take key h m r
    exact ⟨X ++ foll (rk key (r + m)) (rcon (r + m)), by rw [← Nat.add_assoc, keys_next key h (r + m), hX, List.append_assoc]⟩
theorem add_rk (s key : List Int) (h : key.length = 16) (r : Nat) (hr : r ≤ 10) : add s (keys key 40) (16 * r) = add s (rk key r) 0 := by
  obtain ⟨X, hX⟩ := keys_take key h (10 - r) r
  rw [show 4 * (r + (10 - r)) = 40 by omega] at hX
  have hW : keys key (4 * r) = (keys key (4 * r)).take (16 * r) ++ rk key r := (List.take_append_drop _ _).symm
  unfold add
  refine List.map_congr_left fun i hi => ?_
  have hi : i < 16 := by simpa using hi
  unfold xorAt
  rw [hX, nb_left _ _ _ (by rw [keys_length, h]; omega), hW, nb_right _ (rk key r) i _ (by rw [List.length_take_of_le (by rw [keys_length, h]; omega)]), Nat.zero_add]
end Aes

section
variable {P : Program}
theorem Blk.setCells {b t : Nat} : ∀ (vs pre old post : List Value) (w : World), old.length = vs.length → Blk w b t (pre ++ (old ++ post)).toArray → Blk (w.setCells b pre.length vs) b t (pre ++ (vs ++ post)).toArray
  | [], pre, old, post, w, h, hB => by
    obtain rfl : old = [] := List.eq_nil_of_length_eq_zero h
    exact hB
  | v :: vs, pre, [], post, w, h, hB => by simp at h
  | v :: vs, pre, o :: old, post, w, h, hB => by
    have h1 := hB.set_ pre.length v
    rw [List.setIfInBounds_toArray, List.set_append_right _ _ (Nat.le_refl _), Nat.sub_self] at h1
    have h2 := Blk.setCells vs (pre ++ [v]) old post (w.setCell ⟨b, pre.length, none⟩ v) (by simpa using h) (by simpa using h1)
    simpa [World.setCells] using h2
theorem Keep.setCells {S : List Nat} {w0 : World} {b : Nat} : ∀ (vs : List Value) (o : Nat) (w : World), Keep S w0 w → (b ∈ S ∨ w0.heap.size ≤ b) → Keep S w0 (w.setCells b o vs)
  | [], _, _, h, _ => h
  | v :: vs, o, w, h, hb => by
    have := Keep.setCells vs (o + 1) (w.setCell ⟨b, o, none⟩ v) (h.setCell hb v) hb
    simpa [World.setCells] using this
/-- An array in the middle of a block: loaded. -/
theorem ow_load_mid {o : Oper} {a : Act} {w : World} {K : Act → World → Prop} {Q : Exit → Act → World → Prop} (ty : TypeId) (x : Operand) (ho : o.op = .load ty x) (b : Nat) (pre l post : List Value) (off : Nat) (hoff : off = pre.length)
    (hx : a.eval x = .pointer (some ⟨b, off, none⟩)) (n : Nat) (e : TypeId) (hu : P.underlying ty = some (.array n e)) (hi : (P.info? ty).map (·.size) = some l.length) (t : TypeId) (hB : Blk w b t (pre ++ (l ++ post)).toArray)
    (h : K (a.put o.dst (.agg l.toArray)) w) : o.wp P a w K Q := by
  subst hoff
  refine wp_load_mid ty x ho b _ hx l _ ?_ hu rfl hi h
  intro j v hv
  have hj := (List.getElem?_eq_some_iff.1 hv).1
  rw [hB.cell]
  simp only [List.getElem?_toArray]
  rw [List.getElem?_append_right (by omega), Nat.add_sub_cancel_left, List.getElem?_append_left hj]
  exact hv
/-- An array into the middle of a block. -/
theorem ow_store_mid {o : Oper} {a : Act} {w : World} {K : Act → World → Prop} {Q : Exit → Act → World → Prop} (ty : TypeId) (x y : Operand) (ho : o.op = .store ty x y) (b : Nat) (pre old post : List Value) (D : Array Value) (off : Nat) (hoff : off = pre.length)
    (hx : a.eval x = .pointer (some ⟨b, off, none⟩)) (hy : a.eval y = .agg D) (hi : (P.info? ty).map (·.size) = some D.size) (hold : old.length = D.size) (h1 : D.all (·.oneCell') = true) (t : TypeId) (hB : Blk w b t (pre ++ (old ++ post)).toArray)
    (h : ∀ w', Blk w' b t (pre ++ (D.toList ++ post)).toArray → Keep [b] w w' → K (a.put o.dst undef) w') : o.wp P a w K Q := by
  subst hoff
  refine wp_store_mid ty x y ho b _ D hx hy ?_ hi h1 (h _ (Blk.setCells D.toList pre old post w (by simpa using hold) hB) (Keep.setCells _ _ _ (Keep.refl _ _) (.inl (by simp))))
  intro j hj
  refine ⟨?_, hB.frozen _⟩
  rw [hB.cell]
  simp only [List.getElem?_toArray]
  rw [List.getElem?_append_right (by omega), Nat.add_sub_cancel_left, List.getElem?_append_left (by omega), List.getElem?_eq_getElem (by omega)]
  rfl
end

set_option maxRecDepth 100000 in
theorem letters46 (f : Nat → Value) : (List.range 46).map f = [f 0, f 1, f 2, f 3, f 4, f 5, f 6, f 7, f 8, f 9, f 10, f 11, f 12, f 13, f 14, f 15, f 16, f 17, f 18, f 19, f 20, f 21, f 22, f 23, f 24, f 25, f 26, f 27, f 28, f 29, f 30, f 31, f 32, f 33, f 34, f 35, f 36, f 37, f 38, f 39, f 40, f 41, f 42, f 43, f 44, f 45] := by kernel_rfl
set_option maxRecDepth 100000 in
theorem Fr.open46 {l : List (Nat × Value)} {a : Act} (h : Fr 46 l a) : ∃ f : Nat → Value, Holds f l ∧ a = ⟨#[f 0, f 1, f 2, f 3, f 4, f 5, f 6, f 7, f 8, f 9, f 10, f 11, f 12, f 13, f 14, f 15, f 16, f 17, f 18, f 19, f 20, f 21, f 22, f 23, f 24, f 25, f 26, f 27, f 28, f 29, f 30, f 31, f 32, f 33, f 34, f 35, f 36, f 37, f 38, f 39, f 40, f 41, f 42, f 43, f 44, f 45], []⟩ := by
  refine ⟨fun k => a.tmps.getD k undef, h.slot, ?_⟩
  obtain ⟨t, d⟩ := a
  obtain ⟨h1, h2, _⟩ := h
  simp only at h1 h2
  subst h1
  have e := arr_letters t 46 h2
  rw [letters46 (fun k => t.getD k undef)] at e
  exact congrArg (fun t => Act.mk t []) e

set_option maxRecDepth 100000 in
theorem letters61 (f : Nat → Value) : (List.range 61).map f = [f 0, f 1, f 2, f 3, f 4, f 5, f 6, f 7, f 8, f 9, f 10, f 11, f 12, f 13, f 14, f 15, f 16, f 17, f 18, f 19, f 20, f 21, f 22, f 23, f 24, f 25, f 26, f 27, f 28, f 29, f 30, f 31, f 32, f 33, f 34, f 35, f 36, f 37, f 38, f 39, f 40, f 41, f 42, f 43, f 44, f 45, f 46, f 47, f 48, f 49, f 50, f 51, f 52, f 53, f 54, f 55, f 56, f 57, f 58, f 59, f 60] := by kernel_rfl
set_option maxRecDepth 100000 in
theorem Fr.open61 {l : List (Nat × Value)} {a : Act} (h : Fr 61 l a) : ∃ f : Nat → Value, Holds f l ∧ a = ⟨#[f 0, f 1, f 2, f 3, f 4, f 5, f 6, f 7, f 8, f 9, f 10, f 11, f 12, f 13, f 14, f 15, f 16, f 17, f 18, f 19, f 20, f 21, f 22, f 23, f 24, f 25, f 26, f 27, f 28, f 29, f 30, f 31, f 32, f 33, f 34, f 35, f 36, f 37, f 38, f 39, f 40, f 41, f 42, f 43, f 44, f 45, f 46, f 47, f 48, f 49, f 50, f 51, f 52, f 53, f 54, f 55, f 56, f 57, f 58, f 59, f 60], []⟩ := by
  refine ⟨fun k => a.tmps.getD k undef, h.slot, ?_⟩
  obtain ⟨t, d⟩ := a
  obtain ⟨h1, h2, _⟩ := h
  simp only at h1 h2
  subst h1
  have e := arr_letters t 61 h2
  rw [letters61 (fun k => t.getD k undef)] at e
  exact congrArg (fun t => Act.mk t []) e

/-- Load and store of arrays by value: their sizes. -/
theorem blkSz (D : Array Value) (h : D.size = 16) : (Try.prog.info? 23).map (·.size) = some D.size := by rw [h]; exact blkCells
theorem blkSzL (l : List Value) (h : l.length = 16) : (Try.prog.info? 23).map (·.size) = some l.length := by rw [h]; exact blkCells

noncomputable def hkey5 : Code := regionOf Try.f12 5
set_option maxRecDepth 100000 in
set_option maxHeartbeats 4000000 in
theorem key_reg5 (R : Act → World → Prop) (a : Act) (w2 : World) (g P B : Nat) (D : Array Value) (pre old post : List Value) (hD : Hid (D.size = 16)) (hD1 : Hid (D.all (·.oneCell') = true)) (hp : Hid (pre.length = 1)) (ho : Hid (old.length = 16))
    (hBB : Hid (Blk w2 B 23 D)) (hBP : Hid (Blk w2 P 75 (pre ++ (old ++ post)).toArray))
    (hF : Fr 46 [(0, .pointer (some ⟨g, 0, none⟩)), (3, .pointer (some ⟨B, 0, none⟩)), (5, .pointer (some ⟨P, 0, none⟩))] a)
    (hR : Hid (∀ a' w', Fr 46 [(0, .pointer (some ⟨g, 0, none⟩)), (3, .pointer (some ⟨B, 0, none⟩)), (5, .pointer (some ⟨P, 0, none⟩))] a' → Blk w' P 75 (pre ++ (D.toList ++ post)).toArray → Keep [P] w2 w' → R a' w')) :
    Code.wp Try.prog hkey5 (OutN R) a w2 := by
  obtain ⟨f, ⟨f0, f3, f5, -⟩, rfl⟩ := hF.open46
  simp only [f0, f3, f5]
  clear f0 f3 f5 hF
  conv => arg 2; whnf
  refine wp_region_any (by kernel_rfl) ?_
  change wpAny _ _ _ _ _ _ _ (World.drew _)
  obtain ⟨W0, hW0⟩ : ∃ W0, W0 = w2.drew := ⟨_, rfl⟩
  rw [← hW0]
  have hk0 : Keep [P] w2 W0 := by rw [hW0]; exact (Keep.refl [P] w2).drew
  have hbb : Blk W0 B 23 D := by rw [hW0]; exact hBB.out.drew
  have hbp : Blk W0 P 75 (pre ++ (old ++ post)).toArray := by rw [hW0]; exact hBP.out.drew
  clear hW0
  go_simp
  refine wpAny_take (i := 0) (v := ?_) rfl (by kernel_rfl) (by kernel_rfl) (by kernel_rfl) (fun _ _ _ h => h) (Or.inl ⟨by rfl, ?_⟩) ?_
  rotate_left
  · intro y; go_simp; try (with_reducible rfl)
  rotate_left
  go_simp
  refine wpAny_take (i := 2) (v := ?_) rfl (by kernel_rfl) (by kernel_rfl) (by kernel_rfl) (fun _ _ _ h => h) (Or.inl ⟨by rfl, ?_⟩) ?_
  rotate_left
  · intro y; go_simp; try (with_reducible rfl)
  rotate_left
  go_simp
  refine wpAny_take (i := 3) (v := ?_) rfl (by kernel_rfl) (by kernel_rfl) (by kernel_rfl) (fun _ _ _ h => h) (Or.inl ⟨by rfl, ?_⟩) ?_
  rotate_left
  · intro y; go_simp; try (with_reducible rfl)
  rotate_left
  go_simp
  refine wpAny_ready (rs := [1]) (by kernel_rfl) (by simp) ?_
  refine AllReady.cons rfl (fun K hK => ?_) ?_
  ·
    apply step_wp
    · rfl
    refine ow_load _ _ rfl B rfl 16 5 Try.underlying23 _ D hbb (blkSz _ hD.out) ?_
    apply hK
    clear hK K
    go_simp
    refine wpAny_take (i := 4) (v := ?_) rfl (by kernel_rfl) (by kernel_rfl) (by kernel_rfl) (fun _ _ _ h => h) (Or.inl ⟨by rfl, ?_⟩) ?_
    rotate_left
    · intro y; go_simp; try (with_reducible rfl)
    rotate_left
    go_simp
    refine wpAny_ready (rs := [5]) (by kernel_rfl) (by simp) ?_
    refine AllReady.cons rfl (fun K hK => ?_) ?_
    ·
      apply step_wp
      · rfl
      refine ow_store_mid _ _ _ rfl P pre old post D _ (by rw [hp.out]) rfl rfl (blkSz _ hD.out) (by rw [hD.out]; exact ho.out) hD1.out _ hbp ?_
      intro W1 hbp1 hs1
      have hk1 : Keep [P] w2 W1 := hk0.trans hs1
      clear hs1
      apply hK
      clear hK K
      go_simp
      refine wpAny_done (by kernel_rfl) ?_ _
      exact hR.out _ _ ⟨rfl, rfl, by repeat (first | exact trivial | refine ⟨rfl, ?_⟩)⟩ hbp1 hk1
    exact AllReady.nil
  exact AllReady.nil

noncomputable def hkey10 : Code := regionOf Try.f12 10
set_option maxRecDepth 100000 in
set_option maxHeartbeats 4000000 in
theorem key_reg10 (R : Act → World → Prop) (a : Act) (w2 : World) (g P B n r : Nat) (p : Int) (pre1 l1 post1 pre2 old2 post2 : List Value) (E F : Array Value) (hr : r < 10) (hE : Hid (l1.toArray = E)) (hF0 : Hid (F.size = 16)) (hF1 : Hid (F.all (·.oneCell') = true))
    (hp1 : Hid (pre1.length = 1 + 16 * r)) (hl1 : Hid (l1.length = 16)) (hp2 : Hid (pre2.length = 1 + 16 * (r + 1))) (ho2 : Hid (old2.length = 16))
    (hB1 : Hid (Blk w2 P 75 (pre1 ++ (l1 ++ post1)).toArray)) (hB2 : Hid (Blk w2 P 75 (pre2 ++ (old2 ++ post2)).toArray)) (hA : Hid (AT w2 g n))
    (hC : Hid (∀ W, AT W g n → Calls Try.prog 24 #[.pointer (some ⟨g, 0, none⟩), .agg E, .int .u8 p] W fun e w' => e = .returned (.agg F) ∧ Keep [] W w'))
    (hF : Fr 46 [(0, .pointer (some ⟨g, 0, none⟩)), (3, .pointer (some ⟨B, 0, none⟩)), (5, .pointer (some ⟨P, 0, none⟩)), (6, .int .u8 p), (7, .int .i64 r), (24, .int .i64 r)] a)
    (hR : Hid (∀ a' w', Fr 46 [(0, .pointer (some ⟨g, 0, none⟩)), (3, .pointer (some ⟨B, 0, none⟩)), (5, .pointer (some ⟨P, 0, none⟩)), (6, .int .u8 p), (24, .int .i64 r)] a' → Blk w' P 75 (pre2 ++ (F.toList ++ post2)).toArray → Keep [P] w2 w' → R a' w')) :
    Code.wp Try.prog hkey10 (OutN R) a w2 := by
  have bi : (0 : Int) ≤ r ∧ (r : Int) < 11 := ⟨by omega, by omega⟩
  have bi2 : (0 : Int) ≤ (r : Int) + 1 ∧ (r : Int) + 1 < 11 := ⟨by omega, by omega⟩
  have hw : IntKind.i64.wrap ((r : Int) + 1) = (r : Int) + 1 := IntWalk.i64_in _ ⟨by omega, by omega⟩
  have ht : ((r : Int) + 1).toNat = r + 1 := by omega
  obtain ⟨f, ⟨f0, f3, f5, f6, f7, f24, -⟩, rfl⟩ := hF.open46
  simp only [f0, f3, f5, f6, f7, f24]
  clear f0 f3 f5 f6 f7 f24 hF
  conv => arg 2; whnf
  refine wp_region_any (by kernel_rfl) ?_
  change wpAny _ _ _ _ _ _ _ (World.drew _)
  obtain ⟨W0, hW0⟩ : ∃ W0, W0 = w2.drew := ⟨_, rfl⟩
  rw [← hW0]
  have hk0 : Keep [P] w2 W0 := by rw [hW0]; exact (Keep.refl [P] w2).drew
  have hb1 : Blk W0 P 75 (pre1 ++ (l1 ++ post1)).toArray := by rw [hW0]; exact hB1.out.drew
  have hb2 : Blk W0 P 75 (pre2 ++ (old2 ++ post2)).toArray := by rw [hW0]; exact hB2.out.drew
  have hat : AT W0 g n := by rw [hW0]; exact Blk.drew hA.out
  clear hW0
  go_simp
  refine wpAny_take (i := 0) (v := ?_) rfl (by kernel_rfl) (by kernel_rfl) (by kernel_rfl) (fun _ _ _ h => h) (Or.inl ⟨by rfl, ?_⟩) ?_
  rotate_left
  · intro y; go_simp; try (with_reducible rfl)
  rotate_left
  go_simp
  refine wpAny_take (i := 1) (v := ?_) rfl (by kernel_rfl) (by kernel_rfl) (by kernel_rfl) (fun _ _ _ h => h) (Or.inl ⟨by rfl, ?_⟩) ?_
  rotate_left
  · intro y; go_simp; try (with_reducible rfl)
  rotate_left
  go_simp
  refine wpAny_take (i := 2) (v := ?_) rfl (by kernel_rfl) (by kernel_rfl) (by kernel_rfl) (fun _ _ _ h => h) (Or.inl ⟨by rfl, ?_⟩) ?_
  rotate_left
  · intro y; go_simp; try (with_reducible rfl)
  rotate_left
  go_simp
  refine wpAny_take (i := 3) (v := ?_) rfl (by kernel_rfl) (by kernel_rfl) (by kernel_rfl) (fun _ _ _ h => h) (Or.inl ⟨by rfl, ?_⟩) ?_
  rotate_left
  · intro y; go_simp; try (with_reducible rfl)
  rotate_left
  go_simp
  refine wpAny_take (i := 4) (v := ?_) rfl (by kernel_rfl) (by kernel_rfl) (by kernel_rfl) (fun _ _ _ h => h) (Or.inl ⟨by rfl, ?_⟩) ?_
  rotate_left
  · intro y; go_simp; try (with_reducible rfl)
  rotate_left
  go_simp
  refine wpAny_take (i := 5) (v := ?_) rfl (by kernel_rfl) (by kernel_rfl) (by kernel_rfl) (fun _ _ _ h => h) (Or.inl ⟨by rfl, ?_⟩) ?_
  rotate_left
  · intro y; go_simp; try (with_reducible rfl)
  rotate_left
  go_simp
  refine wpAny_take (i := 6) (v := ?_) rfl (by kernel_rfl) (by kernel_rfl) (by kernel_rfl) (fun _ _ _ h => h) (Or.inl ⟨by rfl, ?_⟩) ?_
  rotate_left
  · intro y; go_simp; try (with_reducible rfl)
  rotate_left
  go_simp
  refine wpAny_take (i := 7) (v := ?_) rfl (by kernel_rfl) (by kernel_rfl) (by kernel_rfl) (fun _ _ _ h => h) (Or.inl ⟨by rfl, ?_⟩) ?_
  rotate_left
  · intro y; go_simp; try (with_reducible rfl)
  rotate_left
  go_simp
  refine wpAny_take (i := 8) (v := ?_) rfl (by kernel_rfl) (by kernel_rfl) (by kernel_rfl) (fun _ _ _ h => h) (Or.inl ⟨by rfl, ?_⟩) ?_
  rotate_left
  · intro y; go_simp; try (with_reducible rfl)
  rotate_left
  go_simp
  refine wpAny_take (i := 10) (v := ?_) rfl (by kernel_rfl) (by kernel_rfl) (by kernel_rfl) (fun _ _ _ h => h) (Or.inl ⟨by rfl, ?_⟩) ?_
  rotate_left
  · intro y; go_simp; try (with_reducible rfl)
  rotate_left
  go_simp
  refine wpAny_take (i := 12) (v := ?_) rfl (by kernel_rfl) (by kernel_rfl) (by kernel_rfl) (fun _ _ _ h => h) (Or.inl ⟨by rfl, ?_⟩) ?_
  rotate_left
  · intro y; go_simp; try (with_reducible rfl)
  rotate_left
  go_simp
  refine wpAny_take (i := 13) (v := ?_) rfl (by kernel_rfl) (by kernel_rfl) (by kernel_rfl) (fun _ _ _ h => h) (Or.inl ⟨by rfl, ?_⟩) ?_
  rotate_left
  · intro y; go_simp; try (with_reducible rfl)
  rotate_left
  go_simp
  refine wpAny_ready (rs := [9]) (by kernel_rfl) (by simp) ?_
  refine AllReady.cons rfl (fun K hK => ?_) ?_
  ·
    apply step_wp
    · rfl
    refine ow_load_mid _ _ rfl P pre1 l1 post1 _ ?_ rfl 16 5 Try.underlying23 (blkSzL _ hl1.out) _ hb1 ?_
    · rw [hp1.out]; omega
    rw [hE.out]
    apply hK
    clear hK K
    go_simp
    refine wpAny_ready (rs := [11]) (by kernel_rfl) (by simp) ?_
    refine AllReady.cons rfl (fun K hK => ?_) ?_
    ·
      apply step_wp
      · rfl
      refine ow_call _ _ _ (by kernel_rfl) (hC.out _ hat) ?_
      rintro e W1 ⟨rfl, hs1⟩
      refine ⟨_, rfl, ?_⟩
      have hk1 : Keep [P] w2 W1 := hk0.trans0 hs1
      replace hb2 := hb2.keep hs1 (by simp)
      clear hs1
      apply hK
      clear hK K
      go_simp
      refine wpAny_take (i := 14) (v := ?_) rfl (by kernel_rfl) (by kernel_rfl) (by kernel_rfl) (fun _ _ _ h => h) (Or.inl ⟨by rfl, ?_⟩) ?_
      rotate_left
      · intro y; go_simp; try (with_reducible rfl)
      rotate_left
      go_simp
      refine wpAny_ready (rs := [15]) (by kernel_rfl) (by simp) ?_
      refine AllReady.cons rfl (fun K hK => ?_) ?_
      ·
        apply step_wp
        · rfl
        refine ow_store_mid _ _ _ rfl P pre2 old2 post2 F _ ?_ rfl rfl (blkSz _ hF0.out) (by rw [hF0.out]; exact ho2.out) hF1.out _ hb2 ?_
        · rw [hp2.out]; omega
        intro W2 hb3 hs2
        have hk2 : Keep [P] w2 W2 := hk1.trans hs2
        clear hs2
        apply hK
        clear hK K
        go_simp
        refine wpAny_done (by kernel_rfl) ?_ _
        exact hR.out _ _ ⟨rfl, rfl, by repeat (first | exact trivial | refine ⟨rfl, ?_⟩)⟩ hb3 hk2
      exact AllReady.nil
    exact AllReady.nil
  exact AllReady.nil

noncomputable def hturn3 : Code := regionOf Try.f14 3
set_option maxRecDepth 100000 in
set_option maxHeartbeats 8000000 in
theorem turn_reg3 (R : Act → World → Prop) (a : Act) (w2 : World) (P B C : Nat) (D F E : Array Value) (pre l post : List Value) (hD : Hid (D.size = 16)) (hF0 : Hid (F.size = 16)) (hF1 : Hid (F.all (·.oneCell') = true)) (hE : Hid (l.toArray = E)) (hl : Hid (l.length = 16))
    (hBB : Hid (Blk w2 B 23 D)) (hBP : Hid (Blk w2 P 75 (pre ++ (l ++ post)).toArray))
    (hpr : Hid (pre.length = 1)) (hC1 : Hid (∀ W, Calls Try.prog 26 #[.agg D, .agg E] W fun e w' => e = .returned (.agg F) ∧ Keep [] W w'))
    (hF : Fr 61 [(0, .pointer (some ⟨P, 0, none⟩)), (3, .pointer (some ⟨B, 0, none⟩)), (4, .pointer (some ⟨C, 0, none⟩))] a)
    (hR : Hid (∀ a' w', Fr 61 [(0, .pointer (some ⟨P, 0, none⟩)), (3, .pointer (some ⟨B, 0, none⟩)), (4, .pointer (some ⟨C, 0, none⟩))] a' → Blk w' B 23 F → Keep [B] w2 w' → R a' w')) :
    Code.wp Try.prog hturn3 (OutN R) a w2 := by
  obtain ⟨f, ⟨f0, f3, f4, -⟩, rfl⟩ := hF.open61
  simp only [f0, f3, f4]
  clear f0 f3 f4 hF
  conv => arg 2; whnf
  refine wp_region_any (by kernel_rfl) ?_
  change wpAny _ _ _ _ _ _ _ (World.drew _)
  obtain ⟨W0, hW0⟩ : ∃ W0, W0 = w2.drew := ⟨_, rfl⟩
  rw [← hW0]
  have hk0 : Keep [] w2 W0 := by rw [hW0]; exact (Keep.refl [] w2).drew
  have hb : Blk W0 B 23 D := by rw [hW0]; exact hBB.out.drew
  have hp0 : Blk W0 P 75 (pre ++ (l ++ post)).toArray := by rw [hW0]; exact hBP.out.drew
  clear hW0
  go_simp
  refine wpAny_take (i := 1) (v := ?_) rfl (by kernel_rfl) (by kernel_rfl) (by kernel_rfl) (fun _ _ _ h => h) (Or.inl ⟨by rfl, ?_⟩) ?_
  rotate_left
  · intro y; go_simp; try (with_reducible rfl)
  rotate_left
  go_simp
  refine wpAny_take (i := 2) (v := ?_) rfl (by kernel_rfl) (by kernel_rfl) (by kernel_rfl) (fun _ _ _ h => h) (Or.inl ⟨by rfl, ?_⟩) ?_
  rotate_left
  · intro y; go_simp; try (with_reducible rfl)
  rotate_left
  go_simp
  refine wpAny_take (i := 3) (v := ?_) rfl (by kernel_rfl) (by kernel_rfl) (by kernel_rfl) (fun _ _ _ h => h) (Or.inl ⟨by rfl, ?_⟩) ?_
  rotate_left
  · intro y; go_simp; try (with_reducible rfl)
  rotate_left
  go_simp
  refine wpAny_take (i := 4) (v := ?_) rfl (by kernel_rfl) (by kernel_rfl) (by kernel_rfl) (fun _ _ _ h => h) (Or.inl ⟨by rfl, ?_⟩) ?_
  rotate_left
  · intro y; go_simp; try (with_reducible rfl)
  rotate_left
  go_simp
  refine wpAny_ready (rs := [0, 5]) (by kernel_rfl) (by simp) ?_
  refine AllReady.cons rfl (fun K hK => ?_) ?_
  ·
    apply step_wp
    · rfl
    refine ow_load _ _ rfl B rfl 16 5 Try.underlying23 _ D hb (blkSz _ hD.out) ?_
    apply hK
    clear hK K
    go_simp
    refine wpAny_ready (rs := [5]) (by kernel_rfl) (by simp) ?_
    refine AllReady.cons rfl (fun K hK => ?_) ?_
    ·
      apply step_wp
      · rfl
      refine ow_load_mid _ _ rfl P pre l post _ ?_ rfl 16 5 Try.underlying23 (blkSzL _ hl.out) _ hp0 ?_
      · rw [hpr.out]; try omega
      rw [hE.out]
      apply hK
      clear hK K
      go_simp
      refine wpAny_ready (rs := [6]) (by kernel_rfl) (by simp) ?_
      refine AllReady.cons rfl (fun K hK => ?_) ?_
      ·
        apply step_wp
        · rfl
        refine ow_call _ _ _ (by kernel_rfl) (hC1.out _) ?_
        rintro e W6 ⟨rfl, hs6⟩
        refine ⟨_, rfl, ?_⟩
        have hk6 : Keep [] w2 W6 := hk0.trans hs6
        replace hb := hb.keep hs6 (by simp)
        replace hp0 := hp0.keep hs6 (by simp)
        clear hs6
        apply hK
        clear hK K
        go_simp
        refine wpAny_ready (rs := [7]) (by kernel_rfl) (by simp) ?_
        refine AllReady.cons rfl (fun K hK => ?_) ?_
        ·
          apply step_wp
          · rfl
          refine ow_store _ _ _ rfl B F rfl rfl _ _ hb (blkSz _ hF0.out) (by rw [hF0.out]; exact hD.out) hF1.out ?_
          intro WF hbF hsF
          have hkF : Keep [B] w2 WF := hk6.more0.trans hsF
          clear hsF
          apply hK
          clear hK K
          go_simp
          refine wpAny_done (by kernel_rfl) ?_ _
          exact hR.out _ _ ⟨rfl, rfl, by repeat (first | exact trivial | refine ⟨rfl, ?_⟩)⟩ hbF hkF
        exact AllReady.nil
      exact AllReady.nil
    exact AllReady.nil
  refine AllReady.cons rfl (fun K hK => ?_) ?_
  ·
    apply step_wp
    · rfl
    refine ow_load_mid _ _ rfl P pre l post _ ?_ rfl 16 5 Try.underlying23 (blkSzL _ hl.out) _ hp0 ?_
    · rw [hpr.out]; try omega
    rw [hE.out]
    apply hK
    clear hK K
    go_simp
    refine wpAny_ready (rs := [0]) (by kernel_rfl) (by simp) ?_
    refine AllReady.cons rfl (fun K hK => ?_) ?_
    ·
      apply step_wp
      · rfl
      refine ow_load _ _ rfl B rfl 16 5 Try.underlying23 _ D hb (blkSz _ hD.out) ?_
      apply hK
      clear hK K
      go_simp
      refine wpAny_ready (rs := [6]) (by kernel_rfl) (by simp) ?_
      refine AllReady.cons rfl (fun K hK => ?_) ?_
      ·
        apply step_wp
        · rfl
        refine ow_call _ _ _ (by kernel_rfl) (hC1.out _) ?_
        rintro e W6 ⟨rfl, hs6⟩
        refine ⟨_, rfl, ?_⟩
        have hk6 : Keep [] w2 W6 := hk0.trans hs6
        replace hb := hb.keep hs6 (by simp)
        replace hp0 := hp0.keep hs6 (by simp)
        clear hs6
        apply hK
        clear hK K
        go_simp
        refine wpAny_ready (rs := [7]) (by kernel_rfl) (by simp) ?_
        refine AllReady.cons rfl (fun K hK => ?_) ?_
        ·
          apply step_wp
          · rfl
          refine ow_store _ _ _ rfl B F rfl rfl _ _ hb (blkSz _ hF0.out) (by rw [hF0.out]; exact hD.out) hF1.out ?_
          intro WF hbF hsF
          have hkF : Keep [B] w2 WF := hk6.more0.trans hsF
          clear hsF
          apply hK
          clear hK K
          go_simp
          refine wpAny_done (by kernel_rfl) ?_ _
          exact hR.out _ _ ⟨rfl, rfl, by repeat (first | exact trivial | refine ⟨rfl, ?_⟩)⟩ hbF hkF
        exact AllReady.nil
      exact AllReady.nil
    exact AllReady.nil
  exact AllReady.nil

noncomputable def hturn7 : Code := regionOf Try.f14 7
set_option maxRecDepth 100000 in
set_option maxHeartbeats 8000000 in
theorem turn_reg7 (R : Act → World → Prop) (a : Act) (w2 : World) (P B C : Nat) (D F E : Array Value) (pre l post : List Value) (hD : Hid (D.size = 16)) (hF0 : Hid (F.size = 16)) (hF1 : Hid (F.all (·.oneCell') = true)) (hE : Hid (l.toArray = E)) (hl : Hid (l.length = 16))
    (hBB : Hid (Blk w2 B 23 D)) (hBP : Hid (Blk w2 P 75 (pre ++ (l ++ post)).toArray)) (g n r : Nat) (D1 D2 : Array Value) (hr : r < 10) (hpr : Hid (pre.length = 1 + 16 * r)) (hA : Hid (∀ W, Keep [] w2 W → AT W g n))
    (hLP : ∀ W, Blk W P 75 (pre ++ (l ++ post)).toArray → (loadVar 30 ⟨P, 0, none⟩).run Try.prog W = .ok (.pointer (some ⟨g, 0, none⟩)) W)
    (hC0 : Hid (∀ W, AT W g n → Calls Try.prog 28 #[.pointer (some ⟨g, 0, none⟩), .agg D] W fun e w' => e = .returned (.agg D1) ∧ Keep [] W w'))
    (hC1 : Hid (∀ W, Calls Try.prog 27 #[.agg D1] W fun e w' => e = .returned (.agg D2) ∧ Keep [] W w'))
    (hC2 : Hid (∀ W, Calls Try.prog 26 #[.agg D2, .agg E] W fun e w' => e = .returned (.agg F) ∧ Keep [] W w'))
    (hF : Fr 61 [(0, .pointer (some ⟨P, 0, none⟩)), (3, .pointer (some ⟨B, 0, none⟩)), (4, .pointer (some ⟨C, 0, none⟩)), (5, .int .i64 r)] a)
    (hR : Hid (∀ a' w', Fr 61 [(0, .pointer (some ⟨P, 0, none⟩)), (3, .pointer (some ⟨B, 0, none⟩)), (4, .pointer (some ⟨C, 0, none⟩)), (5, .int .i64 r)] a' → Blk w' B 23 F → Keep [B] w2 w' → R a' w')) :
    Code.wp Try.prog hturn7 (OutN R) a w2 := by
  have bi : (0 : Int) ≤ r ∧ (r : Int) < 11 := ⟨by omega, by omega⟩
  obtain ⟨f, ⟨f0, f3, f4, f5, -⟩, rfl⟩ := hF.open61
  simp only [f0, f3, f4, f5]
  clear f0 f3 f4 f5 hF
  conv => arg 2; whnf
  refine wp_region_any (by kernel_rfl) ?_
  change wpAny _ _ _ _ _ _ _ (World.drew _)
  obtain ⟨W0, hW0⟩ : ∃ W0, W0 = w2.drew := ⟨_, rfl⟩
  rw [← hW0]
  have hk0 : Keep [] w2 W0 := by rw [hW0]; exact (Keep.refl [] w2).drew
  have hb : Blk W0 B 23 D := by rw [hW0]; exact hBB.out.drew
  have hp0 : Blk W0 P 75 (pre ++ (l ++ post)).toArray := by rw [hW0]; exact hBP.out.drew
  clear hW0
  go_simp
  refine wpAny_take (i := 0) (v := ?_) rfl (by kernel_rfl) (by kernel_rfl) (by kernel_rfl) (fun _ _ _ h => h) (Or.inl ⟨by rfl, ?_⟩) ?_
  rotate_left
  · intro y; go_simp; try (with_reducible rfl)
  rotate_left
  go_simp
  refine wpAny_take (i := 1) (v := ?_) rfl (by kernel_rfl) (by kernel_rfl) (by kernel_rfl) (fun _ _ _ h => h) (Or.inl ⟨by rfl, ?_⟩) ?_
  rotate_left
  · intro y; go_simp; try (with_reducible rfl)
  rotate_left
  go_simp
  refine wpAny_take (i := 2) (v := ?_) rfl (by kernel_rfl) (by kernel_rfl) (by kernel_rfl) (fun _ _ _ h => h) (Or.inl ⟨by rfl, ?_⟩) ?_
  rotate_left
  · intro y; go_simp; try (with_reducible rfl)
  rotate_left
  go_simp
  refine wpAny_take (i := 7) (v := ?_) rfl (by kernel_rfl) (by kernel_rfl) (by kernel_rfl) (fun _ _ _ h => h) (Or.inl ⟨by rfl, ?_⟩) ?_
  rotate_left
  · intro y; go_simp; try (with_reducible rfl)
  rotate_left
  go_simp
  refine wpAny_take (i := 8) (v := ?_) rfl (by kernel_rfl) (by kernel_rfl) (by kernel_rfl) (fun _ _ _ h => h) (Or.inl ⟨by rfl, ?_⟩) ?_
  rotate_left
  · intro y; go_simp; try (with_reducible rfl)
  rotate_left
  go_simp
  refine wpAny_take (i := 9) (v := ?_) rfl (by kernel_rfl) (by kernel_rfl) (by kernel_rfl) (fun _ _ _ h => h) (Or.inl ⟨by rfl, ?_⟩) ?_
  rotate_left
  · intro y; go_simp; try (with_reducible rfl)
  rotate_left
  go_simp
  refine wpAny_take (i := 10) (v := ?_) rfl (by kernel_rfl) (by kernel_rfl) (by kernel_rfl) (fun _ _ _ h => h) (Or.inl ⟨by rfl, ?_⟩) ?_
  rotate_left
  · intro y; go_simp; try (with_reducible rfl)
  rotate_left
  go_simp
  refine wpAny_take (i := 11) (v := ?_) rfl (by kernel_rfl) (by kernel_rfl) (by kernel_rfl) (fun _ _ _ h => h) (Or.inl ⟨by rfl, ?_⟩) ?_
  rotate_left
  · intro y; go_simp; try (with_reducible rfl)
  rotate_left
  go_simp
  refine wpAny_ready (rs := [3, 4, 12]) (by kernel_rfl) (by simp) ?_
  refine AllReady.cons rfl (fun K hK => ?_) ?_
  ·
    apply step_wp
    · rfl
    refine ow_load1 _ _ rfl ⟨P, 0, none⟩ rfl (.pointer (some ⟨g, 0, none⟩)) (hLP _ hp0) ?_
    apply hK
    clear hK K
    go_simp
    refine wpAny_ready (rs := [4, 12]) (by kernel_rfl) (by simp) ?_
    refine AllReady.cons rfl (fun K hK => ?_) ?_
    ·
      apply step_wp
      · rfl
      refine ow_load _ _ rfl B rfl 16 5 Try.underlying23 _ D hb (blkSz _ hD.out) ?_
      apply hK
      clear hK K
      go_simp
      refine wpAny_ready (rs := [5, 12]) (by kernel_rfl) (by simp) ?_
      refine AllReady.cons rfl (fun K hK => ?_) ?_
      ·
        apply step_wp
        · rfl
        refine ow_call _ _ _ (by kernel_rfl) (hC0.out _ (hA.out _ hk0)) ?_
        rintro e W5 ⟨rfl, hs5⟩
        refine ⟨_, rfl, ?_⟩
        have hk5 : Keep [] w2 W5 := hk0.trans hs5
        replace hb := hb.keep hs5 (by simp)
        replace hp0 := hp0.keep hs5 (by simp)
        clear hs5
        apply hK
        clear hK K
        go_simp
        refine wpAny_ready (rs := [6, 12]) (by kernel_rfl) (by simp) ?_
        refine AllReady.cons rfl (fun K hK => ?_) ?_
        ·
          apply step_wp
          · rfl
          refine ow_call _ _ _ (by kernel_rfl) (hC1.out _) ?_
          rintro e W6 ⟨rfl, hs6⟩
          refine ⟨_, rfl, ?_⟩
          have hk6 : Keep [] w2 W6 := hk5.trans hs6
          replace hb := hb.keep hs6 (by simp)
          replace hp0 := hp0.keep hs6 (by simp)
          clear hs6
          apply hK
          clear hK K
          go_simp
          refine wpAny_ready (rs := [12]) (by kernel_rfl) (by simp) ?_
          refine AllReady.cons rfl (fun K hK => ?_) ?_
          ·
            apply step_wp
            · rfl
            refine ow_load_mid _ _ rfl P pre l post _ ?_ rfl 16 5 Try.underlying23 (blkSzL _ hl.out) _ hp0 ?_
            · rw [hpr.out]; try omega
            rw [hE.out]
            apply hK
            clear hK K
            go_simp
            refine wpAny_ready (rs := [13]) (by kernel_rfl) (by simp) ?_
            refine AllReady.cons rfl (fun K hK => ?_) ?_
            ·
              apply step_wp
              · rfl
              refine ow_call _ _ _ (by kernel_rfl) (hC2.out _) ?_
              rintro e W13 ⟨rfl, hs13⟩
              refine ⟨_, rfl, ?_⟩
              have hk13 : Keep [] w2 W13 := hk6.trans hs13
              replace hb := hb.keep hs13 (by simp)
              replace hp0 := hp0.keep hs13 (by simp)
              clear hs13
              apply hK
              clear hK K
              go_simp
              refine wpAny_ready (rs := [14]) (by kernel_rfl) (by simp) ?_
              refine AllReady.cons rfl (fun K hK => ?_) ?_
              ·
                apply step_wp
                · rfl
                refine ow_store _ _ _ rfl B F rfl rfl _ _ hb (blkSz _ hF0.out) (by rw [hF0.out]; exact hD.out) hF1.out ?_
                intro WF hbF hsF
                have hkF : Keep [B] w2 WF := hk13.more0.trans hsF
                clear hsF
                apply hK
                clear hK K
                go_simp
                refine wpAny_done (by kernel_rfl) ?_ _
                exact hR.out _ _ ⟨rfl, rfl, by repeat (first | exact trivial | refine ⟨rfl, ?_⟩)⟩ hbF hkF
              exact AllReady.nil
            exact AllReady.nil
          exact AllReady.nil
        refine AllReady.cons rfl (fun K hK => ?_) ?_
        ·
          apply step_wp
          · rfl
          refine ow_load_mid _ _ rfl P pre l post _ ?_ rfl 16 5 Try.underlying23 (blkSzL _ hl.out) _ hp0 ?_
          · rw [hpr.out]; try omega
          rw [hE.out]
          apply hK
          clear hK K
          go_simp
          refine wpAny_ready (rs := [6]) (by kernel_rfl) (by simp) ?_
          refine AllReady.cons rfl (fun K hK => ?_) ?_
          ·
            apply step_wp
            · rfl
            refine ow_call _ _ _ (by kernel_rfl) (hC1.out _) ?_
            rintro e W6 ⟨rfl, hs6⟩
            refine ⟨_, rfl, ?_⟩
            have hk6 : Keep [] w2 W6 := hk5.trans hs6
            replace hb := hb.keep hs6 (by simp)
            replace hp0 := hp0.keep hs6 (by simp)
            clear hs6
            apply hK
            clear hK K
            go_simp
            refine wpAny_ready (rs := [13]) (by kernel_rfl) (by simp) ?_
            refine AllReady.cons rfl (fun K hK => ?_) ?_
            ·
              apply step_wp
              · rfl
              refine ow_call _ _ _ (by kernel_rfl) (hC2.out _) ?_
              rintro e W13 ⟨rfl, hs13⟩
              refine ⟨_, rfl, ?_⟩
              have hk13 : Keep [] w2 W13 := hk6.trans hs13
              replace hb := hb.keep hs13 (by simp)
              replace hp0 := hp0.keep hs13 (by simp)
              clear hs13
              apply hK
              clear hK K
              go_simp
              refine wpAny_ready (rs := [14]) (by kernel_rfl) (by simp) ?_
              refine AllReady.cons rfl (fun K hK => ?_) ?_
              ·
                apply step_wp
                · rfl
                refine ow_store _ _ _ rfl B F rfl rfl _ _ hb (blkSz _ hF0.out) (by rw [hF0.out]; exact hD.out) hF1.out ?_
                intro WF hbF hsF
                have hkF : Keep [B] w2 WF := hk13.more0.trans hsF
                clear hsF
                apply hK
                clear hK K
                go_simp
                refine wpAny_done (by kernel_rfl) ?_ _
                exact hR.out _ _ ⟨rfl, rfl, by repeat (first | exact trivial | refine ⟨rfl, ?_⟩)⟩ hbF hkF
              exact AllReady.nil
            exact AllReady.nil
          exact AllReady.nil
        exact AllReady.nil
      refine AllReady.cons rfl (fun K hK => ?_) ?_
      ·
        apply step_wp
        · rfl
        refine ow_load_mid _ _ rfl P pre l post _ ?_ rfl 16 5 Try.underlying23 (blkSzL _ hl.out) _ hp0 ?_
        · rw [hpr.out]; try omega
        rw [hE.out]
        apply hK
        clear hK K
        go_simp
        refine wpAny_ready (rs := [5]) (by kernel_rfl) (by simp) ?_
        refine AllReady.cons rfl (fun K hK => ?_) ?_
        ·
          apply step_wp
          · rfl
          refine ow_call _ _ _ (by kernel_rfl) (hC0.out _ (hA.out _ hk0)) ?_
          rintro e W5 ⟨rfl, hs5⟩
          refine ⟨_, rfl, ?_⟩
          have hk5 : Keep [] w2 W5 := hk0.trans hs5
          replace hb := hb.keep hs5 (by simp)
          replace hp0 := hp0.keep hs5 (by simp)
          clear hs5
          apply hK
          clear hK K
          go_simp
          refine wpAny_ready (rs := [6]) (by kernel_rfl) (by simp) ?_
          refine AllReady.cons rfl (fun K hK => ?_) ?_
          ·
            apply step_wp
            · rfl
            refine ow_call _ _ _ (by kernel_rfl) (hC1.out _) ?_
            rintro e W6 ⟨rfl, hs6⟩
            refine ⟨_, rfl, ?_⟩
            have hk6 : Keep [] w2 W6 := hk5.trans hs6
            replace hb := hb.keep hs6 (by simp)
            replace hp0 := hp0.keep hs6 (by simp)
            clear hs6
            apply hK
            clear hK K
            go_simp
            refine wpAny_ready (rs := [13]) (by kernel_rfl) (by simp) ?_
            refine AllReady.cons rfl (fun K hK => ?_) ?_
            ·
              apply step_wp
              · rfl
              refine ow_call _ _ _ (by kernel_rfl) (hC2.out _) ?_
              rintro e W13 ⟨rfl, hs13⟩
              refine ⟨_, rfl, ?_⟩
              have hk13 : Keep [] w2 W13 := hk6.trans hs13
              replace hb := hb.keep hs13 (by simp)
              replace hp0 := hp0.keep hs13 (by simp)
              clear hs13
              apply hK
              clear hK K
              go_simp
              refine wpAny_ready (rs := [14]) (by kernel_rfl) (by simp) ?_
              refine AllReady.cons rfl (fun K hK => ?_) ?_
              ·
                apply step_wp
                · rfl
                refine ow_store _ _ _ rfl B F rfl rfl _ _ hb (blkSz _ hF0.out) (by rw [hF0.out]; exact hD.out) hF1.out ?_
                intro WF hbF hsF
                have hkF : Keep [B] w2 WF := hk13.more0.trans hsF
                clear hsF
                apply hK
                clear hK K
                go_simp
                refine wpAny_done (by kernel_rfl) ?_ _
                exact hR.out _ _ ⟨rfl, rfl, by repeat (first | exact trivial | refine ⟨rfl, ?_⟩)⟩ hbF hkF
              exact AllReady.nil
            exact AllReady.nil
          exact AllReady.nil
        exact AllReady.nil
      exact AllReady.nil
    refine AllReady.cons rfl (fun K hK => ?_) ?_
    ·
      apply step_wp
      · rfl
      refine ow_load_mid _ _ rfl P pre l post _ ?_ rfl 16 5 Try.underlying23 (blkSzL _ hl.out) _ hp0 ?_
      · rw [hpr.out]; try omega
      rw [hE.out]
      apply hK
      clear hK K
      go_simp
      refine wpAny_ready (rs := [4]) (by kernel_rfl) (by simp) ?_
      refine AllReady.cons rfl (fun K hK => ?_) ?_
      ·
        apply step_wp
        · rfl
        refine ow_load _ _ rfl B rfl 16 5 Try.underlying23 _ D hb (blkSz _ hD.out) ?_
        apply hK
        clear hK K
        go_simp
        refine wpAny_ready (rs := [5]) (by kernel_rfl) (by simp) ?_
        refine AllReady.cons rfl (fun K hK => ?_) ?_
        ·
          apply step_wp
          · rfl
          refine ow_call _ _ _ (by kernel_rfl) (hC0.out _ (hA.out _ hk0)) ?_
          rintro e W5 ⟨rfl, hs5⟩
          refine ⟨_, rfl, ?_⟩
          have hk5 : Keep [] w2 W5 := hk0.trans hs5
          replace hb := hb.keep hs5 (by simp)
          replace hp0 := hp0.keep hs5 (by simp)
          clear hs5
          apply hK
          clear hK K
          go_simp
          refine wpAny_ready (rs := [6]) (by kernel_rfl) (by simp) ?_
          refine AllReady.cons rfl (fun K hK => ?_) ?_
          ·
            apply step_wp
            · rfl
            refine ow_call _ _ _ (by kernel_rfl) (hC1.out _) ?_
            rintro e W6 ⟨rfl, hs6⟩
            refine ⟨_, rfl, ?_⟩
            have hk6 : Keep [] w2 W6 := hk5.trans hs6
            replace hb := hb.keep hs6 (by simp)
            replace hp0 := hp0.keep hs6 (by simp)
            clear hs6
            apply hK
            clear hK K
            go_simp
            refine wpAny_ready (rs := [13]) (by kernel_rfl) (by simp) ?_
            refine AllReady.cons rfl (fun K hK => ?_) ?_
            ·
              apply step_wp
              · rfl
              refine ow_call _ _ _ (by kernel_rfl) (hC2.out _) ?_
              rintro e W13 ⟨rfl, hs13⟩
              refine ⟨_, rfl, ?_⟩
              have hk13 : Keep [] w2 W13 := hk6.trans hs13
              replace hb := hb.keep hs13 (by simp)
              replace hp0 := hp0.keep hs13 (by simp)
              clear hs13
              apply hK
              clear hK K
              go_simp
              refine wpAny_ready (rs := [14]) (by kernel_rfl) (by simp) ?_
              refine AllReady.cons rfl (fun K hK => ?_) ?_
              ·
                apply step_wp
                · rfl
                refine ow_store _ _ _ rfl B F rfl rfl _ _ hb (blkSz _ hF0.out) (by rw [hF0.out]; exact hD.out) hF1.out ?_
                intro WF hbF hsF
                have hkF : Keep [B] w2 WF := hk13.more0.trans hsF
                clear hsF
                apply hK
                clear hK K
                go_simp
                refine wpAny_done (by kernel_rfl) ?_ _
                exact hR.out _ _ ⟨rfl, rfl, by repeat (first | exact trivial | refine ⟨rfl, ?_⟩)⟩ hbF hkF
              exact AllReady.nil
            exact AllReady.nil
          exact AllReady.nil
        exact AllReady.nil
      exact AllReady.nil
    exact AllReady.nil
  refine AllReady.cons rfl (fun K hK => ?_) ?_
  ·
    apply step_wp
    · rfl
    refine ow_load _ _ rfl B rfl 16 5 Try.underlying23 _ D hb (blkSz _ hD.out) ?_
    apply hK
    clear hK K
    go_simp
    refine wpAny_ready (rs := [3, 12]) (by kernel_rfl) (by simp) ?_
    refine AllReady.cons rfl (fun K hK => ?_) ?_
    ·
      apply step_wp
      · rfl
      refine ow_load1 _ _ rfl ⟨P, 0, none⟩ rfl (.pointer (some ⟨g, 0, none⟩)) (hLP _ hp0) ?_
      apply hK
      clear hK K
      go_simp
      refine wpAny_ready (rs := [5, 12]) (by kernel_rfl) (by simp) ?_
      refine AllReady.cons rfl (fun K hK => ?_) ?_
      ·
        apply step_wp
        · rfl
        refine ow_call _ _ _ (by kernel_rfl) (hC0.out _ (hA.out _ hk0)) ?_
        rintro e W5 ⟨rfl, hs5⟩
        refine ⟨_, rfl, ?_⟩
        have hk5 : Keep [] w2 W5 := hk0.trans hs5
        replace hb := hb.keep hs5 (by simp)
        replace hp0 := hp0.keep hs5 (by simp)
        clear hs5
        apply hK
        clear hK K
        go_simp
        refine wpAny_ready (rs := [6, 12]) (by kernel_rfl) (by simp) ?_
        refine AllReady.cons rfl (fun K hK => ?_) ?_
        ·
          apply step_wp
          · rfl
          refine ow_call _ _ _ (by kernel_rfl) (hC1.out _) ?_
          rintro e W6 ⟨rfl, hs6⟩
          refine ⟨_, rfl, ?_⟩
          have hk6 : Keep [] w2 W6 := hk5.trans hs6
          replace hb := hb.keep hs6 (by simp)
          replace hp0 := hp0.keep hs6 (by simp)
          clear hs6
          apply hK
          clear hK K
          go_simp
          refine wpAny_ready (rs := [12]) (by kernel_rfl) (by simp) ?_
          refine AllReady.cons rfl (fun K hK => ?_) ?_
          ·
            apply step_wp
            · rfl
            refine ow_load_mid _ _ rfl P pre l post _ ?_ rfl 16 5 Try.underlying23 (blkSzL _ hl.out) _ hp0 ?_
            · rw [hpr.out]; try omega
            rw [hE.out]
            apply hK
            clear hK K
            go_simp
            refine wpAny_ready (rs := [13]) (by kernel_rfl) (by simp) ?_
            refine AllReady.cons rfl (fun K hK => ?_) ?_
            ·
              apply step_wp
              · rfl
              refine ow_call _ _ _ (by kernel_rfl) (hC2.out _) ?_
              rintro e W13 ⟨rfl, hs13⟩
              refine ⟨_, rfl, ?_⟩
              have hk13 : Keep [] w2 W13 := hk6.trans hs13
              replace hb := hb.keep hs13 (by simp)
              replace hp0 := hp0.keep hs13 (by simp)
              clear hs13
              apply hK
              clear hK K
              go_simp
              refine wpAny_ready (rs := [14]) (by kernel_rfl) (by simp) ?_
              refine AllReady.cons rfl (fun K hK => ?_) ?_
              ·
                apply step_wp
                · rfl
                refine ow_store _ _ _ rfl B F rfl rfl _ _ hb (blkSz _ hF0.out) (by rw [hF0.out]; exact hD.out) hF1.out ?_
                intro WF hbF hsF
                have hkF : Keep [B] w2 WF := hk13.more0.trans hsF
                clear hsF
                apply hK
                clear hK K
                go_simp
                refine wpAny_done (by kernel_rfl) ?_ _
                exact hR.out _ _ ⟨rfl, rfl, by repeat (first | exact trivial | refine ⟨rfl, ?_⟩)⟩ hbF hkF
              exact AllReady.nil
            exact AllReady.nil
          exact AllReady.nil
        refine AllReady.cons rfl (fun K hK => ?_) ?_
        ·
          apply step_wp
          · rfl
          refine ow_load_mid _ _ rfl P pre l post _ ?_ rfl 16 5 Try.underlying23 (blkSzL _ hl.out) _ hp0 ?_
          · rw [hpr.out]; try omega
          rw [hE.out]
          apply hK
          clear hK K
          go_simp
          refine wpAny_ready (rs := [6]) (by kernel_rfl) (by simp) ?_
          refine AllReady.cons rfl (fun K hK => ?_) ?_
          ·
            apply step_wp
            · rfl
            refine ow_call _ _ _ (by kernel_rfl) (hC1.out _) ?_
            rintro e W6 ⟨rfl, hs6⟩
            refine ⟨_, rfl, ?_⟩
            have hk6 : Keep [] w2 W6 := hk5.trans hs6
            replace hb := hb.keep hs6 (by simp)
            replace hp0 := hp0.keep hs6 (by simp)
            clear hs6
            apply hK
            clear hK K
            go_simp
            refine wpAny_ready (rs := [13]) (by kernel_rfl) (by simp) ?_
            refine AllReady.cons rfl (fun K hK => ?_) ?_
            ·
              apply step_wp
              · rfl
              refine ow_call _ _ _ (by kernel_rfl) (hC2.out _) ?_
              rintro e W13 ⟨rfl, hs13⟩
              refine ⟨_, rfl, ?_⟩
              have hk13 : Keep [] w2 W13 := hk6.trans hs13
              replace hb := hb.keep hs13 (by simp)
              replace hp0 := hp0.keep hs13 (by simp)
              clear hs13
              apply hK
              clear hK K
              go_simp
              refine wpAny_ready (rs := [14]) (by kernel_rfl) (by simp) ?_
              refine AllReady.cons rfl (fun K hK => ?_) ?_
              ·
                apply step_wp
                · rfl
                refine ow_store _ _ _ rfl B F rfl rfl _ _ hb (blkSz _ hF0.out) (by rw [hF0.out]; exact hD.out) hF1.out ?_
                intro WF hbF hsF
                have hkF : Keep [B] w2 WF := hk13.more0.trans hsF
                clear hsF
                apply hK
                clear hK K
                go_simp
                refine wpAny_done (by kernel_rfl) ?_ _
                exact hR.out _ _ ⟨rfl, rfl, by repeat (first | exact trivial | refine ⟨rfl, ?_⟩)⟩ hbF hkF
              exact AllReady.nil
            exact AllReady.nil
          exact AllReady.nil
        exact AllReady.nil
      refine AllReady.cons rfl (fun K hK => ?_) ?_
      ·
        apply step_wp
        · rfl
        refine ow_load_mid _ _ rfl P pre l post _ ?_ rfl 16 5 Try.underlying23 (blkSzL _ hl.out) _ hp0 ?_
        · rw [hpr.out]; try omega
        rw [hE.out]
        apply hK
        clear hK K
        go_simp
        refine wpAny_ready (rs := [5]) (by kernel_rfl) (by simp) ?_
        refine AllReady.cons rfl (fun K hK => ?_) ?_
        ·
          apply step_wp
          · rfl
          refine ow_call _ _ _ (by kernel_rfl) (hC0.out _ (hA.out _ hk0)) ?_
          rintro e W5 ⟨rfl, hs5⟩
          refine ⟨_, rfl, ?_⟩
          have hk5 : Keep [] w2 W5 := hk0.trans hs5
          replace hb := hb.keep hs5 (by simp)
          replace hp0 := hp0.keep hs5 (by simp)
          clear hs5
          apply hK
          clear hK K
          go_simp
          refine wpAny_ready (rs := [6]) (by kernel_rfl) (by simp) ?_
          refine AllReady.cons rfl (fun K hK => ?_) ?_
          ·
            apply step_wp
            · rfl
            refine ow_call _ _ _ (by kernel_rfl) (hC1.out _) ?_
            rintro e W6 ⟨rfl, hs6⟩
            refine ⟨_, rfl, ?_⟩
            have hk6 : Keep [] w2 W6 := hk5.trans hs6
            replace hb := hb.keep hs6 (by simp)
            replace hp0 := hp0.keep hs6 (by simp)
            clear hs6
            apply hK
            clear hK K
            go_simp
            refine wpAny_ready (rs := [13]) (by kernel_rfl) (by simp) ?_
            refine AllReady.cons rfl (fun K hK => ?_) ?_
            ·
              apply step_wp
              · rfl
              refine ow_call _ _ _ (by kernel_rfl) (hC2.out _) ?_
              rintro e W13 ⟨rfl, hs13⟩
              refine ⟨_, rfl, ?_⟩
              have hk13 : Keep [] w2 W13 := hk6.trans hs13
              replace hb := hb.keep hs13 (by simp)
              replace hp0 := hp0.keep hs13 (by simp)
              clear hs13
              apply hK
              clear hK K
              go_simp
              refine wpAny_ready (rs := [14]) (by kernel_rfl) (by simp) ?_
              refine AllReady.cons rfl (fun K hK => ?_) ?_
              ·
                apply step_wp
                · rfl
                refine ow_store _ _ _ rfl B F rfl rfl _ _ hb (blkSz _ hF0.out) (by rw [hF0.out]; exact hD.out) hF1.out ?_
                intro WF hbF hsF
                have hkF : Keep [B] w2 WF := hk13.more0.trans hsF
                clear hsF
                apply hK
                clear hK K
                go_simp
                refine wpAny_done (by kernel_rfl) ?_ _
                exact hR.out _ _ ⟨rfl, rfl, by repeat (first | exact trivial | refine ⟨rfl, ?_⟩)⟩ hbF hkF
              exact AllReady.nil
            exact AllReady.nil
          exact AllReady.nil
        exact AllReady.nil
      exact AllReady.nil
    refine AllReady.cons rfl (fun K hK => ?_) ?_
    ·
      apply step_wp
      · rfl
      refine ow_load_mid _ _ rfl P pre l post _ ?_ rfl 16 5 Try.underlying23 (blkSzL _ hl.out) _ hp0 ?_
      · rw [hpr.out]; try omega
      rw [hE.out]
      apply hK
      clear hK K
      go_simp
      refine wpAny_ready (rs := [3]) (by kernel_rfl) (by simp) ?_
      refine AllReady.cons rfl (fun K hK => ?_) ?_
      ·
        apply step_wp
        · rfl
        refine ow_load1 _ _ rfl ⟨P, 0, none⟩ rfl (.pointer (some ⟨g, 0, none⟩)) (hLP _ hp0) ?_
        apply hK
        clear hK K
        go_simp
        refine wpAny_ready (rs := [5]) (by kernel_rfl) (by simp) ?_
        refine AllReady.cons rfl (fun K hK => ?_) ?_
        ·
          apply step_wp
          · rfl
          refine ow_call _ _ _ (by kernel_rfl) (hC0.out _ (hA.out _ hk0)) ?_
          rintro e W5 ⟨rfl, hs5⟩
          refine ⟨_, rfl, ?_⟩
          have hk5 : Keep [] w2 W5 := hk0.trans hs5
          replace hb := hb.keep hs5 (by simp)
          replace hp0 := hp0.keep hs5 (by simp)
          clear hs5
          apply hK
          clear hK K
          go_simp
          refine wpAny_ready (rs := [6]) (by kernel_rfl) (by simp) ?_
          refine AllReady.cons rfl (fun K hK => ?_) ?_
          ·
            apply step_wp
            · rfl
            refine ow_call _ _ _ (by kernel_rfl) (hC1.out _) ?_
            rintro e W6 ⟨rfl, hs6⟩
            refine ⟨_, rfl, ?_⟩
            have hk6 : Keep [] w2 W6 := hk5.trans hs6
            replace hb := hb.keep hs6 (by simp)
            replace hp0 := hp0.keep hs6 (by simp)
            clear hs6
            apply hK
            clear hK K
            go_simp
            refine wpAny_ready (rs := [13]) (by kernel_rfl) (by simp) ?_
            refine AllReady.cons rfl (fun K hK => ?_) ?_
            ·
              apply step_wp
              · rfl
              refine ow_call _ _ _ (by kernel_rfl) (hC2.out _) ?_
              rintro e W13 ⟨rfl, hs13⟩
              refine ⟨_, rfl, ?_⟩
              have hk13 : Keep [] w2 W13 := hk6.trans hs13
              replace hb := hb.keep hs13 (by simp)
              replace hp0 := hp0.keep hs13 (by simp)
              clear hs13
              apply hK
              clear hK K
              go_simp
              refine wpAny_ready (rs := [14]) (by kernel_rfl) (by simp) ?_
              refine AllReady.cons rfl (fun K hK => ?_) ?_
              ·
                apply step_wp
                · rfl
                refine ow_store _ _ _ rfl B F rfl rfl _ _ hb (blkSz _ hF0.out) (by rw [hF0.out]; exact hD.out) hF1.out ?_
                intro WF hbF hsF
                have hkF : Keep [B] w2 WF := hk13.more0.trans hsF
                clear hsF
                apply hK
                clear hK K
                go_simp
                refine wpAny_done (by kernel_rfl) ?_ _
                exact hR.out _ _ ⟨rfl, rfl, by repeat (first | exact trivial | refine ⟨rfl, ?_⟩)⟩ hbF hkF
              exact AllReady.nil
            exact AllReady.nil
          exact AllReady.nil
        exact AllReady.nil
      exact AllReady.nil
    exact AllReady.nil
  refine AllReady.cons rfl (fun K hK => ?_) ?_
  ·
    apply step_wp
    · rfl
    refine ow_load_mid _ _ rfl P pre l post _ ?_ rfl 16 5 Try.underlying23 (blkSzL _ hl.out) _ hp0 ?_
    · rw [hpr.out]; try omega
    rw [hE.out]
    apply hK
    clear hK K
    go_simp
    refine wpAny_ready (rs := [3, 4]) (by kernel_rfl) (by simp) ?_
    refine AllReady.cons rfl (fun K hK => ?_) ?_
    ·
      apply step_wp
      · rfl
      refine ow_load1 _ _ rfl ⟨P, 0, none⟩ rfl (.pointer (some ⟨g, 0, none⟩)) (hLP _ hp0) ?_
      apply hK
      clear hK K
      go_simp
      refine wpAny_ready (rs := [4]) (by kernel_rfl) (by simp) ?_
      refine AllReady.cons rfl (fun K hK => ?_) ?_
      ·
        apply step_wp
        · rfl
        refine ow_load _ _ rfl B rfl 16 5 Try.underlying23 _ D hb (blkSz _ hD.out) ?_
        apply hK
        clear hK K
        go_simp
        refine wpAny_ready (rs := [5]) (by kernel_rfl) (by simp) ?_
        refine AllReady.cons rfl (fun K hK => ?_) ?_
        ·
          apply step_wp
          · rfl
          refine ow_call _ _ _ (by kernel_rfl) (hC0.out _ (hA.out _ hk0)) ?_
          rintro e W5 ⟨rfl, hs5⟩
          refine ⟨_, rfl, ?_⟩
          have hk5 : Keep [] w2 W5 := hk0.trans hs5
          replace hb := hb.keep hs5 (by simp)
          replace hp0 := hp0.keep hs5 (by simp)
          clear hs5
          apply hK
          clear hK K
          go_simp
          refine wpAny_ready (rs := [6]) (by kernel_rfl) (by simp) ?_
          refine AllReady.cons rfl (fun K hK => ?_) ?_
          ·
            apply step_wp
            · rfl
            refine ow_call _ _ _ (by kernel_rfl) (hC1.out _) ?_
            rintro e W6 ⟨rfl, hs6⟩
            refine ⟨_, rfl, ?_⟩
            have hk6 : Keep [] w2 W6 := hk5.trans hs6
            replace hb := hb.keep hs6 (by simp)
            replace hp0 := hp0.keep hs6 (by simp)
            clear hs6
            apply hK
            clear hK K
            go_simp
            refine wpAny_ready (rs := [13]) (by kernel_rfl) (by simp) ?_
            refine AllReady.cons rfl (fun K hK => ?_) ?_
            ·
              apply step_wp
              · rfl
              refine ow_call _ _ _ (by kernel_rfl) (hC2.out _) ?_
              rintro e W13 ⟨rfl, hs13⟩
              refine ⟨_, rfl, ?_⟩
              have hk13 : Keep [] w2 W13 := hk6.trans hs13
              replace hb := hb.keep hs13 (by simp)
              replace hp0 := hp0.keep hs13 (by simp)
              clear hs13
              apply hK
              clear hK K
              go_simp
              refine wpAny_ready (rs := [14]) (by kernel_rfl) (by simp) ?_
              refine AllReady.cons rfl (fun K hK => ?_) ?_
              ·
                apply step_wp
                · rfl
                refine ow_store _ _ _ rfl B F rfl rfl _ _ hb (blkSz _ hF0.out) (by rw [hF0.out]; exact hD.out) hF1.out ?_
                intro WF hbF hsF
                have hkF : Keep [B] w2 WF := hk13.more0.trans hsF
                clear hsF
                apply hK
                clear hK K
                go_simp
                refine wpAny_done (by kernel_rfl) ?_ _
                exact hR.out _ _ ⟨rfl, rfl, by repeat (first | exact trivial | refine ⟨rfl, ?_⟩)⟩ hbF hkF
              exact AllReady.nil
            exact AllReady.nil
          exact AllReady.nil
        exact AllReady.nil
      exact AllReady.nil
    refine AllReady.cons rfl (fun K hK => ?_) ?_
    ·
      apply step_wp
      · rfl
      refine ow_load _ _ rfl B rfl 16 5 Try.underlying23 _ D hb (blkSz _ hD.out) ?_
      apply hK
      clear hK K
      go_simp
      refine wpAny_ready (rs := [3]) (by kernel_rfl) (by simp) ?_
      refine AllReady.cons rfl (fun K hK => ?_) ?_
      ·
        apply step_wp
        · rfl
        refine ow_load1 _ _ rfl ⟨P, 0, none⟩ rfl (.pointer (some ⟨g, 0, none⟩)) (hLP _ hp0) ?_
        apply hK
        clear hK K
        go_simp
        refine wpAny_ready (rs := [5]) (by kernel_rfl) (by simp) ?_
        refine AllReady.cons rfl (fun K hK => ?_) ?_
        ·
          apply step_wp
          · rfl
          refine ow_call _ _ _ (by kernel_rfl) (hC0.out _ (hA.out _ hk0)) ?_
          rintro e W5 ⟨rfl, hs5⟩
          refine ⟨_, rfl, ?_⟩
          have hk5 : Keep [] w2 W5 := hk0.trans hs5
          replace hb := hb.keep hs5 (by simp)
          replace hp0 := hp0.keep hs5 (by simp)
          clear hs5
          apply hK
          clear hK K
          go_simp
          refine wpAny_ready (rs := [6]) (by kernel_rfl) (by simp) ?_
          refine AllReady.cons rfl (fun K hK => ?_) ?_
          ·
            apply step_wp
            · rfl
            refine ow_call _ _ _ (by kernel_rfl) (hC1.out _) ?_
            rintro e W6 ⟨rfl, hs6⟩
            refine ⟨_, rfl, ?_⟩
            have hk6 : Keep [] w2 W6 := hk5.trans hs6
            replace hb := hb.keep hs6 (by simp)
            replace hp0 := hp0.keep hs6 (by simp)
            clear hs6
            apply hK
            clear hK K
            go_simp
            refine wpAny_ready (rs := [13]) (by kernel_rfl) (by simp) ?_
            refine AllReady.cons rfl (fun K hK => ?_) ?_
            ·
              apply step_wp
              · rfl
              refine ow_call _ _ _ (by kernel_rfl) (hC2.out _) ?_
              rintro e W13 ⟨rfl, hs13⟩
              refine ⟨_, rfl, ?_⟩
              have hk13 : Keep [] w2 W13 := hk6.trans hs13
              replace hb := hb.keep hs13 (by simp)
              replace hp0 := hp0.keep hs13 (by simp)
              clear hs13
              apply hK
              clear hK K
              go_simp
              refine wpAny_ready (rs := [14]) (by kernel_rfl) (by simp) ?_
              refine AllReady.cons rfl (fun K hK => ?_) ?_
              ·
                apply step_wp
                · rfl
                refine ow_store _ _ _ rfl B F rfl rfl _ _ hb (blkSz _ hF0.out) (by rw [hF0.out]; exact hD.out) hF1.out ?_
                intro WF hbF hsF
                have hkF : Keep [B] w2 WF := hk13.more0.trans hsF
                clear hsF
                apply hK
                clear hK K
                go_simp
                refine wpAny_done (by kernel_rfl) ?_ _
                exact hR.out _ _ ⟨rfl, rfl, by repeat (first | exact trivial | refine ⟨rfl, ?_⟩)⟩ hbF hkF
              exact AllReady.nil
            exact AllReady.nil
          exact AllReady.nil
        exact AllReady.nil
      exact AllReady.nil
    exact AllReady.nil
  exact AllReady.nil

noncomputable def hturn8 : Code := regionOf Try.f14 8
set_option maxRecDepth 100000 in
set_option maxHeartbeats 8000000 in
theorem turn_reg8 (R : Act → World → Prop) (a : Act) (w2 : World) (P B C : Nat) (D F E : Array Value) (pre l post : List Value) (hD : Hid (D.size = 16)) (hF0 : Hid (F.size = 16)) (hF1 : Hid (F.all (·.oneCell') = true)) (hE : Hid (l.toArray = E)) (hl : Hid (l.length = 16))
    (hBB : Hid (Blk w2 B 23 D)) (hBP : Hid (Blk w2 P 75 (pre ++ (l ++ post)).toArray)) (g n : Nat) (D1 : Array Value) (hpr : Hid (pre.length = 161)) (hA : Hid (∀ W, Keep [] w2 W → AT W g n))
    (hLP : ∀ W, Blk W P 75 (pre ++ (l ++ post)).toArray → (loadVar 30 ⟨P, 0, none⟩).run Try.prog W = .ok (.pointer (some ⟨g, 0, none⟩)) W)
    (hC0 : Hid (∀ W, AT W g n → Calls Try.prog 28 #[.pointer (some ⟨g, 0, none⟩), .agg D] W fun e w' => e = .returned (.agg D1) ∧ Keep [] W w'))
    (hC2 : Hid (∀ W, Calls Try.prog 26 #[.agg D1, .agg E] W fun e w' => e = .returned (.agg F) ∧ Keep [] W w'))
    (hF : Fr 61 [(0, .pointer (some ⟨P, 0, none⟩)), (3, .pointer (some ⟨B, 0, none⟩)), (4, .pointer (some ⟨C, 0, none⟩))] a)
    (hR : Hid (∀ a' w', Fr 61 [(0, .pointer (some ⟨P, 0, none⟩)), (3, .pointer (some ⟨B, 0, none⟩)), (4, .pointer (some ⟨C, 0, none⟩))] a' → Blk w' B 23 F → Keep [B] w2 w' → R a' w')) :
    Code.wp Try.prog hturn8 (OutN R) a w2 := by
  obtain ⟨f, ⟨f0, f3, f4, -⟩, rfl⟩ := hF.open61
  simp only [f0, f3, f4]
  clear f0 f3 f4 hF
  conv => arg 2; whnf
  refine wp_region_any (by kernel_rfl) ?_
  change wpAny _ _ _ _ _ _ _ (World.drew _)
  obtain ⟨W0, hW0⟩ : ∃ W0, W0 = w2.drew := ⟨_, rfl⟩
  rw [← hW0]
  have hk0 : Keep [] w2 W0 := by rw [hW0]; exact (Keep.refl [] w2).drew
  have hb : Blk W0 B 23 D := by rw [hW0]; exact hBB.out.drew
  have hp0 : Blk W0 P 75 (pre ++ (l ++ post)).toArray := by rw [hW0]; exact hBP.out.drew
  clear hW0
  go_simp
  refine wpAny_take (i := 0) (v := ?_) rfl (by kernel_rfl) (by kernel_rfl) (by kernel_rfl) (fun _ _ _ h => h) (Or.inl ⟨by rfl, ?_⟩) ?_
  rotate_left
  · intro y; go_simp; try (with_reducible rfl)
  rotate_left
  go_simp
  refine wpAny_take (i := 1) (v := ?_) rfl (by kernel_rfl) (by kernel_rfl) (by kernel_rfl) (fun _ _ _ h => h) (Or.inl ⟨by rfl, ?_⟩) ?_
  rotate_left
  · intro y; go_simp; try (with_reducible rfl)
  rotate_left
  go_simp
  refine wpAny_take (i := 2) (v := ?_) rfl (by kernel_rfl) (by kernel_rfl) (by kernel_rfl) (fun _ _ _ h => h) (Or.inl ⟨by rfl, ?_⟩) ?_
  rotate_left
  · intro y; go_simp; try (with_reducible rfl)
  rotate_left
  go_simp
  refine wpAny_take (i := 6) (v := ?_) rfl (by kernel_rfl) (by kernel_rfl) (by kernel_rfl) (fun _ _ _ h => h) (Or.inl ⟨by rfl, ?_⟩) ?_
  rotate_left
  · intro y; go_simp; try (with_reducible rfl)
  rotate_left
  go_simp
  refine wpAny_take (i := 7) (v := ?_) rfl (by kernel_rfl) (by kernel_rfl) (by kernel_rfl) (fun _ _ _ h => h) (Or.inl ⟨by rfl, ?_⟩) ?_
  rotate_left
  · intro y; go_simp; try (with_reducible rfl)
  rotate_left
  go_simp
  refine wpAny_take (i := 8) (v := ?_) rfl (by kernel_rfl) (by kernel_rfl) (by kernel_rfl) (fun _ _ _ h => h) (Or.inl ⟨by rfl, ?_⟩) ?_
  rotate_left
  · intro y; go_simp; try (with_reducible rfl)
  rotate_left
  go_simp
  refine wpAny_take (i := 9) (v := ?_) rfl (by kernel_rfl) (by kernel_rfl) (by kernel_rfl) (fun _ _ _ h => h) (Or.inl ⟨by rfl, ?_⟩) ?_
  rotate_left
  · intro y; go_simp; try (with_reducible rfl)
  rotate_left
  go_simp
  refine wpAny_ready (rs := [3, 4, 10]) (by kernel_rfl) (by simp) ?_
  refine AllReady.cons rfl (fun K hK => ?_) ?_
  ·
    apply step_wp
    · rfl
    refine ow_load1 _ _ rfl ⟨P, 0, none⟩ rfl (.pointer (some ⟨g, 0, none⟩)) (hLP _ hp0) ?_
    apply hK
    clear hK K
    go_simp
    refine wpAny_ready (rs := [4, 10]) (by kernel_rfl) (by simp) ?_
    refine AllReady.cons rfl (fun K hK => ?_) ?_
    ·
      apply step_wp
      · rfl
      refine ow_load _ _ rfl B rfl 16 5 Try.underlying23 _ D hb (blkSz _ hD.out) ?_
      apply hK
      clear hK K
      go_simp
      refine wpAny_ready (rs := [5, 10]) (by kernel_rfl) (by simp) ?_
      refine AllReady.cons rfl (fun K hK => ?_) ?_
      ·
        apply step_wp
        · rfl
        refine ow_call _ _ _ (by kernel_rfl) (hC0.out _ (hA.out _ hk0)) ?_
        rintro e W5 ⟨rfl, hs5⟩
        refine ⟨_, rfl, ?_⟩
        have hk5 : Keep [] w2 W5 := hk0.trans hs5
        replace hb := hb.keep hs5 (by simp)
        replace hp0 := hp0.keep hs5 (by simp)
        clear hs5
        apply hK
        clear hK K
        go_simp
        refine wpAny_ready (rs := [10]) (by kernel_rfl) (by simp) ?_
        refine AllReady.cons rfl (fun K hK => ?_) ?_
        ·
          apply step_wp
          · rfl
          refine ow_load_mid _ _ rfl P pre l post _ ?_ rfl 16 5 Try.underlying23 (blkSzL _ hl.out) _ hp0 ?_
          · rw [hpr.out]; try omega
          rw [hE.out]
          apply hK
          clear hK K
          go_simp
          refine wpAny_ready (rs := [11]) (by kernel_rfl) (by simp) ?_
          refine AllReady.cons rfl (fun K hK => ?_) ?_
          ·
            apply step_wp
            · rfl
            refine ow_call _ _ _ (by kernel_rfl) (hC2.out _) ?_
            rintro e W11 ⟨rfl, hs11⟩
            refine ⟨_, rfl, ?_⟩
            have hk11 : Keep [] w2 W11 := hk5.trans hs11
            replace hb := hb.keep hs11 (by simp)
            replace hp0 := hp0.keep hs11 (by simp)
            clear hs11
            apply hK
            clear hK K
            go_simp
            refine wpAny_ready (rs := [12]) (by kernel_rfl) (by simp) ?_
            refine AllReady.cons rfl (fun K hK => ?_) ?_
            ·
              apply step_wp
              · rfl
              refine ow_store _ _ _ rfl B F rfl rfl _ _ hb (blkSz _ hF0.out) (by rw [hF0.out]; exact hD.out) hF1.out ?_
              intro WF hbF hsF
              have hkF : Keep [B] w2 WF := hk11.more0.trans hsF
              clear hsF
              apply hK
              clear hK K
              go_simp
              refine wpAny_done (by kernel_rfl) ?_ _
              exact hR.out _ _ ⟨rfl, rfl, by repeat (first | exact trivial | refine ⟨rfl, ?_⟩)⟩ hbF hkF
            exact AllReady.nil
          exact AllReady.nil
        exact AllReady.nil
      refine AllReady.cons rfl (fun K hK => ?_) ?_
      ·
        apply step_wp
        · rfl
        refine ow_load_mid _ _ rfl P pre l post _ ?_ rfl 16 5 Try.underlying23 (blkSzL _ hl.out) _ hp0 ?_
        · rw [hpr.out]; try omega
        rw [hE.out]
        apply hK
        clear hK K
        go_simp
        refine wpAny_ready (rs := [5]) (by kernel_rfl) (by simp) ?_
        refine AllReady.cons rfl (fun K hK => ?_) ?_
        ·
          apply step_wp
          · rfl
          refine ow_call _ _ _ (by kernel_rfl) (hC0.out _ (hA.out _ hk0)) ?_
          rintro e W5 ⟨rfl, hs5⟩
          refine ⟨_, rfl, ?_⟩
          have hk5 : Keep [] w2 W5 := hk0.trans hs5
          replace hb := hb.keep hs5 (by simp)
          replace hp0 := hp0.keep hs5 (by simp)
          clear hs5
          apply hK
          clear hK K
          go_simp
          refine wpAny_ready (rs := [11]) (by kernel_rfl) (by simp) ?_
          refine AllReady.cons rfl (fun K hK => ?_) ?_
          ·
            apply step_wp
            · rfl
            refine ow_call _ _ _ (by kernel_rfl) (hC2.out _) ?_
            rintro e W11 ⟨rfl, hs11⟩
            refine ⟨_, rfl, ?_⟩
            have hk11 : Keep [] w2 W11 := hk5.trans hs11
            replace hb := hb.keep hs11 (by simp)
            replace hp0 := hp0.keep hs11 (by simp)
            clear hs11
            apply hK
            clear hK K
            go_simp
            refine wpAny_ready (rs := [12]) (by kernel_rfl) (by simp) ?_
            refine AllReady.cons rfl (fun K hK => ?_) ?_
            ·
              apply step_wp
              · rfl
              refine ow_store _ _ _ rfl B F rfl rfl _ _ hb (blkSz _ hF0.out) (by rw [hF0.out]; exact hD.out) hF1.out ?_
              intro WF hbF hsF
              have hkF : Keep [B] w2 WF := hk11.more0.trans hsF
              clear hsF
              apply hK
              clear hK K
              go_simp
              refine wpAny_done (by kernel_rfl) ?_ _
              exact hR.out _ _ ⟨rfl, rfl, by repeat (first | exact trivial | refine ⟨rfl, ?_⟩)⟩ hbF hkF
            exact AllReady.nil
          exact AllReady.nil
        exact AllReady.nil
      exact AllReady.nil
    refine AllReady.cons rfl (fun K hK => ?_) ?_
    ·
      apply step_wp
      · rfl
      refine ow_load_mid _ _ rfl P pre l post _ ?_ rfl 16 5 Try.underlying23 (blkSzL _ hl.out) _ hp0 ?_
      · rw [hpr.out]; try omega
      rw [hE.out]
      apply hK
      clear hK K
      go_simp
      refine wpAny_ready (rs := [4]) (by kernel_rfl) (by simp) ?_
      refine AllReady.cons rfl (fun K hK => ?_) ?_
      ·
        apply step_wp
        · rfl
        refine ow_load _ _ rfl B rfl 16 5 Try.underlying23 _ D hb (blkSz _ hD.out) ?_
        apply hK
        clear hK K
        go_simp
        refine wpAny_ready (rs := [5]) (by kernel_rfl) (by simp) ?_
        refine AllReady.cons rfl (fun K hK => ?_) ?_
        ·
          apply step_wp
          · rfl
          refine ow_call _ _ _ (by kernel_rfl) (hC0.out _ (hA.out _ hk0)) ?_
          rintro e W5 ⟨rfl, hs5⟩
          refine ⟨_, rfl, ?_⟩
          have hk5 : Keep [] w2 W5 := hk0.trans hs5
          replace hb := hb.keep hs5 (by simp)
          replace hp0 := hp0.keep hs5 (by simp)
          clear hs5
          apply hK
          clear hK K
          go_simp
          refine wpAny_ready (rs := [11]) (by kernel_rfl) (by simp) ?_
          refine AllReady.cons rfl (fun K hK => ?_) ?_
          ·
            apply step_wp
            · rfl
            refine ow_call _ _ _ (by kernel_rfl) (hC2.out _) ?_
            rintro e W11 ⟨rfl, hs11⟩
            refine ⟨_, rfl, ?_⟩
            have hk11 : Keep [] w2 W11 := hk5.trans hs11
            replace hb := hb.keep hs11 (by simp)
            replace hp0 := hp0.keep hs11 (by simp)
            clear hs11
            apply hK
            clear hK K
            go_simp
            refine wpAny_ready (rs := [12]) (by kernel_rfl) (by simp) ?_
            refine AllReady.cons rfl (fun K hK => ?_) ?_
            ·
              apply step_wp
              · rfl
              refine ow_store _ _ _ rfl B F rfl rfl _ _ hb (blkSz _ hF0.out) (by rw [hF0.out]; exact hD.out) hF1.out ?_
              intro WF hbF hsF
              have hkF : Keep [B] w2 WF := hk11.more0.trans hsF
              clear hsF
              apply hK
              clear hK K
              go_simp
              refine wpAny_done (by kernel_rfl) ?_ _
              exact hR.out _ _ ⟨rfl, rfl, by repeat (first | exact trivial | refine ⟨rfl, ?_⟩)⟩ hbF hkF
            exact AllReady.nil
          exact AllReady.nil
        exact AllReady.nil
      exact AllReady.nil
    exact AllReady.nil
  refine AllReady.cons rfl (fun K hK => ?_) ?_
  ·
    apply step_wp
    · rfl
    refine ow_load _ _ rfl B rfl 16 5 Try.underlying23 _ D hb (blkSz _ hD.out) ?_
    apply hK
    clear hK K
    go_simp
    refine wpAny_ready (rs := [3, 10]) (by kernel_rfl) (by simp) ?_
    refine AllReady.cons rfl (fun K hK => ?_) ?_
    ·
      apply step_wp
      · rfl
      refine ow_load1 _ _ rfl ⟨P, 0, none⟩ rfl (.pointer (some ⟨g, 0, none⟩)) (hLP _ hp0) ?_
      apply hK
      clear hK K
      go_simp
      refine wpAny_ready (rs := [5, 10]) (by kernel_rfl) (by simp) ?_
      refine AllReady.cons rfl (fun K hK => ?_) ?_
      ·
        apply step_wp
        · rfl
        refine ow_call _ _ _ (by kernel_rfl) (hC0.out _ (hA.out _ hk0)) ?_
        rintro e W5 ⟨rfl, hs5⟩
        refine ⟨_, rfl, ?_⟩
        have hk5 : Keep [] w2 W5 := hk0.trans hs5
        replace hb := hb.keep hs5 (by simp)
        replace hp0 := hp0.keep hs5 (by simp)
        clear hs5
        apply hK
        clear hK K
        go_simp
        refine wpAny_ready (rs := [10]) (by kernel_rfl) (by simp) ?_
        refine AllReady.cons rfl (fun K hK => ?_) ?_
        ·
          apply step_wp
          · rfl
          refine ow_load_mid _ _ rfl P pre l post _ ?_ rfl 16 5 Try.underlying23 (blkSzL _ hl.out) _ hp0 ?_
          · rw [hpr.out]; try omega
          rw [hE.out]
          apply hK
          clear hK K
          go_simp
          refine wpAny_ready (rs := [11]) (by kernel_rfl) (by simp) ?_
          refine AllReady.cons rfl (fun K hK => ?_) ?_
          ·
            apply step_wp
            · rfl
            refine ow_call _ _ _ (by kernel_rfl) (hC2.out _) ?_
            rintro e W11 ⟨rfl, hs11⟩
            refine ⟨_, rfl, ?_⟩
            have hk11 : Keep [] w2 W11 := hk5.trans hs11
            replace hb := hb.keep hs11 (by simp)
            replace hp0 := hp0.keep hs11 (by simp)
            clear hs11
            apply hK
            clear hK K
            go_simp
            refine wpAny_ready (rs := [12]) (by kernel_rfl) (by simp) ?_
            refine AllReady.cons rfl (fun K hK => ?_) ?_
            ·
              apply step_wp
              · rfl
              refine ow_store _ _ _ rfl B F rfl rfl _ _ hb (blkSz _ hF0.out) (by rw [hF0.out]; exact hD.out) hF1.out ?_
              intro WF hbF hsF
              have hkF : Keep [B] w2 WF := hk11.more0.trans hsF
              clear hsF
              apply hK
              clear hK K
              go_simp
              refine wpAny_done (by kernel_rfl) ?_ _
              exact hR.out _ _ ⟨rfl, rfl, by repeat (first | exact trivial | refine ⟨rfl, ?_⟩)⟩ hbF hkF
            exact AllReady.nil
          exact AllReady.nil
        exact AllReady.nil
      refine AllReady.cons rfl (fun K hK => ?_) ?_
      ·
        apply step_wp
        · rfl
        refine ow_load_mid _ _ rfl P pre l post _ ?_ rfl 16 5 Try.underlying23 (blkSzL _ hl.out) _ hp0 ?_
        · rw [hpr.out]; try omega
        rw [hE.out]
        apply hK
        clear hK K
        go_simp
        refine wpAny_ready (rs := [5]) (by kernel_rfl) (by simp) ?_
        refine AllReady.cons rfl (fun K hK => ?_) ?_
        ·
          apply step_wp
          · rfl
          refine ow_call _ _ _ (by kernel_rfl) (hC0.out _ (hA.out _ hk0)) ?_
          rintro e W5 ⟨rfl, hs5⟩
          refine ⟨_, rfl, ?_⟩
          have hk5 : Keep [] w2 W5 := hk0.trans hs5
          replace hb := hb.keep hs5 (by simp)
          replace hp0 := hp0.keep hs5 (by simp)
          clear hs5
          apply hK
          clear hK K
          go_simp
          refine wpAny_ready (rs := [11]) (by kernel_rfl) (by simp) ?_
          refine AllReady.cons rfl (fun K hK => ?_) ?_
          ·
            apply step_wp
            · rfl
            refine ow_call _ _ _ (by kernel_rfl) (hC2.out _) ?_
            rintro e W11 ⟨rfl, hs11⟩
            refine ⟨_, rfl, ?_⟩
            have hk11 : Keep [] w2 W11 := hk5.trans hs11
            replace hb := hb.keep hs11 (by simp)
            replace hp0 := hp0.keep hs11 (by simp)
            clear hs11
            apply hK
            clear hK K
            go_simp
            refine wpAny_ready (rs := [12]) (by kernel_rfl) (by simp) ?_
            refine AllReady.cons rfl (fun K hK => ?_) ?_
            ·
              apply step_wp
              · rfl
              refine ow_store _ _ _ rfl B F rfl rfl _ _ hb (blkSz _ hF0.out) (by rw [hF0.out]; exact hD.out) hF1.out ?_
              intro WF hbF hsF
              have hkF : Keep [B] w2 WF := hk11.more0.trans hsF
              clear hsF
              apply hK
              clear hK K
              go_simp
              refine wpAny_done (by kernel_rfl) ?_ _
              exact hR.out _ _ ⟨rfl, rfl, by repeat (first | exact trivial | refine ⟨rfl, ?_⟩)⟩ hbF hkF
            exact AllReady.nil
          exact AllReady.nil
        exact AllReady.nil
      exact AllReady.nil
    refine AllReady.cons rfl (fun K hK => ?_) ?_
    ·
      apply step_wp
      · rfl
      refine ow_load_mid _ _ rfl P pre l post _ ?_ rfl 16 5 Try.underlying23 (blkSzL _ hl.out) _ hp0 ?_
      · rw [hpr.out]; try omega
      rw [hE.out]
      apply hK
      clear hK K
      go_simp
      refine wpAny_ready (rs := [3]) (by kernel_rfl) (by simp) ?_
      refine AllReady.cons rfl (fun K hK => ?_) ?_
      ·
        apply step_wp
        · rfl
        refine ow_load1 _ _ rfl ⟨P, 0, none⟩ rfl (.pointer (some ⟨g, 0, none⟩)) (hLP _ hp0) ?_
        apply hK
        clear hK K
        go_simp
        refine wpAny_ready (rs := [5]) (by kernel_rfl) (by simp) ?_
        refine AllReady.cons rfl (fun K hK => ?_) ?_
        ·
          apply step_wp
          · rfl
          refine ow_call _ _ _ (by kernel_rfl) (hC0.out _ (hA.out _ hk0)) ?_
          rintro e W5 ⟨rfl, hs5⟩
          refine ⟨_, rfl, ?_⟩
          have hk5 : Keep [] w2 W5 := hk0.trans hs5
          replace hb := hb.keep hs5 (by simp)
          replace hp0 := hp0.keep hs5 (by simp)
          clear hs5
          apply hK
          clear hK K
          go_simp
          refine wpAny_ready (rs := [11]) (by kernel_rfl) (by simp) ?_
          refine AllReady.cons rfl (fun K hK => ?_) ?_
          ·
            apply step_wp
            · rfl
            refine ow_call _ _ _ (by kernel_rfl) (hC2.out _) ?_
            rintro e W11 ⟨rfl, hs11⟩
            refine ⟨_, rfl, ?_⟩
            have hk11 : Keep [] w2 W11 := hk5.trans hs11
            replace hb := hb.keep hs11 (by simp)
            replace hp0 := hp0.keep hs11 (by simp)
            clear hs11
            apply hK
            clear hK K
            go_simp
            refine wpAny_ready (rs := [12]) (by kernel_rfl) (by simp) ?_
            refine AllReady.cons rfl (fun K hK => ?_) ?_
            ·
              apply step_wp
              · rfl
              refine ow_store _ _ _ rfl B F rfl rfl _ _ hb (blkSz _ hF0.out) (by rw [hF0.out]; exact hD.out) hF1.out ?_
              intro WF hbF hsF
              have hkF : Keep [B] w2 WF := hk11.more0.trans hsF
              clear hsF
              apply hK
              clear hK K
              go_simp
              refine wpAny_done (by kernel_rfl) ?_ _
              exact hR.out _ _ ⟨rfl, rfl, by repeat (first | exact trivial | refine ⟨rfl, ?_⟩)⟩ hbF hkF
            exact AllReady.nil
          exact AllReady.nil
        exact AllReady.nil
      exact AllReady.nil
    exact AllReady.nil
  refine AllReady.cons rfl (fun K hK => ?_) ?_
  ·
    apply step_wp
    · rfl
    refine ow_load_mid _ _ rfl P pre l post _ ?_ rfl 16 5 Try.underlying23 (blkSzL _ hl.out) _ hp0 ?_
    · rw [hpr.out]; try omega
    rw [hE.out]
    apply hK
    clear hK K
    go_simp
    refine wpAny_ready (rs := [3, 4]) (by kernel_rfl) (by simp) ?_
    refine AllReady.cons rfl (fun K hK => ?_) ?_
    ·
      apply step_wp
      · rfl
      refine ow_load1 _ _ rfl ⟨P, 0, none⟩ rfl (.pointer (some ⟨g, 0, none⟩)) (hLP _ hp0) ?_
      apply hK
      clear hK K
      go_simp
      refine wpAny_ready (rs := [4]) (by kernel_rfl) (by simp) ?_
      refine AllReady.cons rfl (fun K hK => ?_) ?_
      ·
        apply step_wp
        · rfl
        refine ow_load _ _ rfl B rfl 16 5 Try.underlying23 _ D hb (blkSz _ hD.out) ?_
        apply hK
        clear hK K
        go_simp
        refine wpAny_ready (rs := [5]) (by kernel_rfl) (by simp) ?_
        refine AllReady.cons rfl (fun K hK => ?_) ?_
        ·
          apply step_wp
          · rfl
          refine ow_call _ _ _ (by kernel_rfl) (hC0.out _ (hA.out _ hk0)) ?_
          rintro e W5 ⟨rfl, hs5⟩
          refine ⟨_, rfl, ?_⟩
          have hk5 : Keep [] w2 W5 := hk0.trans hs5
          replace hb := hb.keep hs5 (by simp)
          replace hp0 := hp0.keep hs5 (by simp)
          clear hs5
          apply hK
          clear hK K
          go_simp
          refine wpAny_ready (rs := [11]) (by kernel_rfl) (by simp) ?_
          refine AllReady.cons rfl (fun K hK => ?_) ?_
          ·
            apply step_wp
            · rfl
            refine ow_call _ _ _ (by kernel_rfl) (hC2.out _) ?_
            rintro e W11 ⟨rfl, hs11⟩
            refine ⟨_, rfl, ?_⟩
            have hk11 : Keep [] w2 W11 := hk5.trans hs11
            replace hb := hb.keep hs11 (by simp)
            replace hp0 := hp0.keep hs11 (by simp)
            clear hs11
            apply hK
            clear hK K
            go_simp
            refine wpAny_ready (rs := [12]) (by kernel_rfl) (by simp) ?_
            refine AllReady.cons rfl (fun K hK => ?_) ?_
            ·
              apply step_wp
              · rfl
              refine ow_store _ _ _ rfl B F rfl rfl _ _ hb (blkSz _ hF0.out) (by rw [hF0.out]; exact hD.out) hF1.out ?_
              intro WF hbF hsF
              have hkF : Keep [B] w2 WF := hk11.more0.trans hsF
              clear hsF
              apply hK
              clear hK K
              go_simp
              refine wpAny_done (by kernel_rfl) ?_ _
              exact hR.out _ _ ⟨rfl, rfl, by repeat (first | exact trivial | refine ⟨rfl, ?_⟩)⟩ hbF hkF
            exact AllReady.nil
          exact AllReady.nil
        exact AllReady.nil
      exact AllReady.nil
    refine AllReady.cons rfl (fun K hK => ?_) ?_
    ·
      apply step_wp
      · rfl
      refine ow_load _ _ rfl B rfl 16 5 Try.underlying23 _ D hb (blkSz _ hD.out) ?_
      apply hK
      clear hK K
      go_simp
      refine wpAny_ready (rs := [3]) (by kernel_rfl) (by simp) ?_
      refine AllReady.cons rfl (fun K hK => ?_) ?_
      ·
        apply step_wp
        · rfl
        refine ow_load1 _ _ rfl ⟨P, 0, none⟩ rfl (.pointer (some ⟨g, 0, none⟩)) (hLP _ hp0) ?_
        apply hK
        clear hK K
        go_simp
        refine wpAny_ready (rs := [5]) (by kernel_rfl) (by simp) ?_
        refine AllReady.cons rfl (fun K hK => ?_) ?_
        ·
          apply step_wp
          · rfl
          refine ow_call _ _ _ (by kernel_rfl) (hC0.out _ (hA.out _ hk0)) ?_
          rintro e W5 ⟨rfl, hs5⟩
          refine ⟨_, rfl, ?_⟩
          have hk5 : Keep [] w2 W5 := hk0.trans hs5
          replace hb := hb.keep hs5 (by simp)
          replace hp0 := hp0.keep hs5 (by simp)
          clear hs5
          apply hK
          clear hK K
          go_simp
          refine wpAny_ready (rs := [11]) (by kernel_rfl) (by simp) ?_
          refine AllReady.cons rfl (fun K hK => ?_) ?_
          ·
            apply step_wp
            · rfl
            refine ow_call _ _ _ (by kernel_rfl) (hC2.out _) ?_
            rintro e W11 ⟨rfl, hs11⟩
            refine ⟨_, rfl, ?_⟩
            have hk11 : Keep [] w2 W11 := hk5.trans hs11
            replace hb := hb.keep hs11 (by simp)
            replace hp0 := hp0.keep hs11 (by simp)
            clear hs11
            apply hK
            clear hK K
            go_simp
            refine wpAny_ready (rs := [12]) (by kernel_rfl) (by simp) ?_
            refine AllReady.cons rfl (fun K hK => ?_) ?_
            ·
              apply step_wp
              · rfl
              refine ow_store _ _ _ rfl B F rfl rfl _ _ hb (blkSz _ hF0.out) (by rw [hF0.out]; exact hD.out) hF1.out ?_
              intro WF hbF hsF
              have hkF : Keep [B] w2 WF := hk11.more0.trans hsF
              clear hsF
              apply hK
              clear hK K
              go_simp
              refine wpAny_done (by kernel_rfl) ?_ _
              exact hR.out _ _ ⟨rfl, rfl, by repeat (first | exact trivial | refine ⟨rfl, ?_⟩)⟩ hbF hkF
            exact AllReady.nil
          exact AllReady.nil
        exact AllReady.nil
      exact AllReady.nil
    exact AllReady.nil
  exact AllReady.nil
end Go.Proofs.Ytlkjngbelckgkaa
