/-
  The document's answer to Sum: the rounds over a block.
-/
import Derived.Test.YtiiifcfgfmoiaaaRSha4
namespace Go.Proofs.Ytiiifcfgfmoiaaa
open Go.RowKit

/-- The words in the middle of the shift: those above j have moved up. -/
def shf (l : List Nat) (j : Nat) : List Nat := l.take (j + 1) ++ (l.drop j).take (7 - j)
theorem shf_set (s : Sha.St) (q : Nat) (h : q < 7) : (shf s.list (q + 1)).set (q + 1) (s.list.getD q 0) = shf s.list q := by
  rcases (show q = 0 ∨ q = 1 ∨ q = 2 ∨ q = 3 ∨ q = 4 ∨ q = 5 ∨ q = 6 by omega) with rfl | rfl | rfl | rfl | rfl | rfl | rfl <;> rfl
theorem shf_get (s : Sha.St) (q : Nat) (h : q < 7) : (shf s.list (q + 1)).getD q 0 = s.list.getD q 0 := by
  rcases (show q = 0 ∨ q = 1 ∨ q = 2 ∨ q = 3 ∨ q = 4 ∨ q = 5 ∨ q = 6 by omega) with rfl | rfl | rfl | rfl | rfl | rfl | rfl <;> rfl
theorem shf_length (s : Sha.St) (q : Nat) (h : q ≤ 7) : (shf s.list q).length = 8 := by
  rcases (show q = 0 ∨ q = 1 ∨ q = 2 ∨ q = 3 ∨ q = 4 ∨ q = 5 ∨ q = 6 ∨ q = 7 by omega) with rfl | rfl | rfl | rfl | rfl | rfl | rfl | rfl <;> rfl
theorem row_get (l : List Nat) (rest : List Value) (i : Nat) (h : i < l.length) : (cellsN l ++ rest)[i]? = some (.int .u32 ((l.getD i 0 : Nat) : Int)) := by
  rw [List.getElem?_append_left (by rw [cellsN_length]; exact h)]
  exact cellsN_get l i h
theorem row_set (l : List Nat) (rest : List Value) (i n : Nat) (h : i < l.length) : ((cellsN l ++ rest).toArray).setIfInBounds i (.int .u32 (n : Int)) = (cellsN (l.set i n) ++ rest).toArray := by
  rw [← cellsN_set]
  simp [List.set_append_left, cellsN_length, h]

theorem K_len : Sha.K.length = 64 := by decide

noncomputable def rb6 : Code := loopOf Try.f19 6

set_option maxRecDepth 100000 in
set_option maxHeartbeats 4000000 in
theorem rl6 (R : Act → World → Prop) (a : Act) (w : World) (xv hv kv wv pv iv one s0 maj : Value) (s : Sha.St) (rest : List Value) (gv cv : Nat) (hcv : Hid (8 ≤ cv ∧ cv ≤ 9223372036854775807))
    (hB : Hid (Blk w gv 55 (cellsN s.list ++ rest).toArray))
    (hF : Fr 313 [(3, hv), (5, xv), (7, kv), (8, pv), (9, wv), (14, .slice (some ⟨gv, 0, none⟩) 8 cv), (15, iv), (18, one), (19, s0), (20, maj), (21, .int .i64 7)] a)
    (hQ : ∀ a' w', Fr 313 [(3, hv), (5, xv), (7, kv), (8, pv), (9, wv), (14, .slice (some ⟨gv, 0, none⟩) 8 cv), (15, iv), (18, one), (19, s0), (20, maj)] a' →
      Blk w' gv 55 (cellsN (shf s.list 0) ++ rest).toArray → Keep [gv] w w' → R a' w') :
    Code.wp Try.prog (.loop rb6) (OutX 12 R) a w := by
  refine wp_loop_ghost_k (fun m a wr => m ≤ 7 ∧ Fr 313 [(3, hv), (5, xv), (7, kv), (8, pv), (9, wv), (14, .slice (some ⟨gv, 0, none⟩) 8 cv), (15, iv), (18, one), (19, s0), (20, maj), (21, .int .i64 m)] a ∧
    Blk wr gv 55 (cellsN (shf s.list m) ++ rest).toArray ∧ Keep [gv] w wr) 7 ⟨Nat.le_refl _, hF, hB.out, Keep.refl _ _⟩ ?_
  intro m a wr ⟨hm, hFr, hBr, hk⟩ J K hJ hK
  have HB := Lib.hid hBr
  have HK := Lib.hid hk
  have HJ := Lib.hid hJ
  obtain ⟨f, ⟨f3, f5, f7, f8, f9, f14, f15, f18, f19, f20, f21, -⟩, rfl⟩ := hFr.open313
  simp only [f3, f5, f7, f8, f9, f14, f15, f18, f19, f20, f21]
  clear f3 f5 f7 f8 f9 f14 f15 f18 f19 f20 f21 hF hFr hBr hk hJ hB
  conv => arg 2; whnf
  cases m with
  | zero =>
    have hQ' := hQ
    clear hQ
    go_wp2
    exact ⟨rfl, hQ' _ _ ⟨rfl, rfl, by repeat (first | exact trivial | refine ⟨rfl, ?_⟩)⟩ HB.out HK.out⟩
  | succ q =>
    clear hQ
    have hc := HB.out.cell q
    rw [show (cellsN (shf s.list (q + 1)) ++ rest).toArray[q]? = some (.int .u32 ((s.list.getD q 0 : Nat) : Int)) by
      rw [← shf_get s q (by omega)]; simpa using row_get (shf s.list (q + 1)) rest q (by rw [shf_length s _ hm]; omega)] at hc
    have hc1 : wr.cell? ⟨gv, q + 1, none⟩ = some (.int .u32 (((shf s.list (q + 1)).getD (q + 1) 0 : Nat) : Int)) := by
      rw [HB.out.cell]; simpa using row_get (shf s.list (q + 1)) rest (q + 1) (by rw [shf_length s _ hm]; omega)
    have hf := HB.out.frozen (q + 1)
    have HS := Lib.hid (shf_set s q (by omega))
    have HRS := Lib.hid (row_set (shf s.list (q + 1)) rest (q + 1) (s.list.getD q 0) (by rw [shf_length s _ hm]; omega))
    generalize s.list.getD q 0 = y at *
    obtain ⟨cv1, cv2⟩ := hcv.out
    go_wp2_with fail
    refine Handed.intro q (Nat.lt_succ_self q) (HJ.out _ _ _ ⟨by omega, ⟨rfl, rfl, by repeat (first | exact trivial | refine ⟨rfl, ?_⟩)⟩, ?_, HK.out.setCell (.inl (by simp)) _⟩)
    have := HB.out.set_ (q + 1) (.int .u32 (y : Int))
    rw [HRS.out, HS.out] at this
    exact this

theorem S0_int (x : Nat) (h : x < 4294967296) : bits .xor .u32 (bits .xor .u32 (Sha.rr x 2 : Int) (Sha.rr x 13)) (Sha.rr x 22 : Int) = (Sha.S0 x : Nat) := by
  rw [u32_xor_nat _ _ (rr32 x 2 h) (rr32 x 13 h), u32_xor_nat _ _ (xor32 (rr32 x 2 h) (rr32 x 13 h)) (rr32 x 22 h)]
  rfl
theorem S1_int (x : Nat) (h : x < 4294967296) : bits .xor .u32 (bits .xor .u32 (Sha.rr x 6 : Int) (Sha.rr x 11)) (Sha.rr x 25 : Int) = (Sha.S1 x : Nat) := by
  rw [u32_xor_nat _ _ (rr32 x 6 h) (rr32 x 11 h), u32_xor_nat _ _ (xor32 (rr32 x 6 h) (rr32 x 11 h)) (rr32 x 25 h)]
  rfl
theorem ch_int (e f g : Nat) (he : e < 4294967296) (hf : f < 4294967296) (hg : g < 4294967296) :
    bits .xor .u32 (bits .and .u32 (e : Int) f) (bits .and .u32 (bits .xor .u32 (e : Int) 4294967295) g) = (Sha.ch e f g : Nat) := by
  rw [u32_and_nat _ _ he hf, show (4294967295 : Int) = ((4294967295 : Nat) : Int) by rfl, u32_xor_nat _ _ he (by decide), u32_and_nat _ _ (xor32 he (by decide)) hg, u32_xor_nat _ _ (and32 hf) (and32 hg)]
  rfl
theorem maj_int (a b c : Nat) (ha : a < 4294967296) (hb : b < 4294967296) (hc : c < 4294967296) :
    bits .xor .u32 (bits .xor .u32 (bits .and .u32 (a : Int) b) (bits .and .u32 (a : Int) c)) (bits .and .u32 (b : Int) c) = (Sha.maj a b c : Nat) := by
  rw [u32_and_nat _ _ ha hb, u32_and_nat _ _ ha hc, u32_and_nat _ _ hb hc, u32_xor_nat _ _ (and32 hb) (and32 hc), u32_xor_nat _ _ (xor32 (and32 hb) (and32 hc)) (and32 hc)]
  rfl
theorem wrap5 (a b c d e : Nat) : IntKind.u32.wrap (IntKind.u32.wrap (IntKind.u32.wrap (IntKind.u32.wrap ((a : Int) + b) + c) + d) + e) = (((a + b + c + d + e) % 4294967296 : Nat) : Int) := by
  simp only [IntKind.wrap_u32']; omega
theorem sum5 (a b c d e : Nat) : (((a : Int) + b + c + d) % 4294967296 + e) % 4294967296 = (((a + b + c + d + e) % 4294967296 : Nat) : Int) := by omega
theorem wrap3 (a b c : Nat) : IntKind.u32.wrap (IntKind.u32.wrap ((a : Int) + b) + c) = (((a + b + c) % 4294967296 : Nat) : Int) := by
  simp only [IntKind.wrap_u32']; omega
theorem wrap2 (a b : Nat) : IntKind.u32.wrap ((a : Int) + b) = (((a + b) % 4294967296 : Nat) : Int) := by
  simp only [IntKind.wrap_u32']; omega

/-- All words fit. -/
def St32 (s : Sha.St) : Prop := s.a < 4294967296 ∧ s.b < 4294967296 ∧ s.c < 4294967296 ∧ s.d < 4294967296 ∧ s.e < 4294967296 ∧ s.f < 4294967296 ∧ s.g < 4294967296 ∧ s.h < 4294967296
theorem rnd32 (k x : Nat) {s : Sha.St} (h : St32 s) : St32 (Sha.rnd k x s) := ⟨mod32 _, h.1, h.2.1, h.2.2.1, mod32 _, h.2.2.2.2.1, h.2.2.2.2.2.1, h.2.2.2.2.2.2.1⟩
theorem rnds32 (ws : List Nat) {s : Sha.St} (h : St32 s) (n : Nat) : St32 (Sha.rnds ws s n) := by
  induction n with
  | zero => exact h
  | succ n ih => exact rnd32 _ _ ih

noncomputable def rb5 : Code := loopOf Try.f19 5

set_option maxRecDepth 100000 in
set_option maxHeartbeats 8000000 in
theorem rl5 (R : Act → World → Prop) (a : Act) (w : World) (xv hv kv pv : Value) (s : Sha.St) (ws : List Nat) (rest : List Value) (gv gw cv : Nat) (hcv : Hid (8 ≤ cv ∧ cv ≤ 9223372036854775807))
    (hs : Hid (St32 s)) (hws : Hid (ws.length = 64)) (hne : Hid (gw ≠ gv)) (hk : Hid (Sl .u32 w kv (Sha.K.map fun (n : Nat) => (n : Int)))) (hkb : Hid (∀ g, kv.ownBlock = some g → g ≠ gv))
    (hB : Hid (Blk w gv 55 (cellsN s.list ++ rest).toArray)) (hW : Hid (Blk w gw 55 (cellsN ws).toArray))
    (hF : Fr 313 [(3, hv), (5, xv), (7, kv), (8, pv), (9, .slice (some ⟨gw, 0, none⟩) 64 64), (14, .slice (some ⟨gv, 0, none⟩) 8 cv), (15, .int .i64 0)] a)
    (hQ : ∀ a' w', Fr 313 [(3, hv), (5, xv), (7, kv), (8, pv), (14, .slice (some ⟨gv, 0, none⟩) 8 cv)] a' →
      Blk w' gv 55 (cellsN (Sha.rnds ws s 64).list ++ rest).toArray → Keep [gv] w w' → R a' w') :
    Code.wp Try.prog (.loop rb5) (OutX 10 R) a w := by
  refine wp_loop_ghost_k (fun m a wr => ∃ i, m + i = 64 ∧ Fr 313 [(3, hv), (5, xv), (7, kv), (8, pv), (9, .slice (some ⟨gw, 0, none⟩) 64 64), (14, .slice (some ⟨gv, 0, none⟩) 8 cv), (15, .int .i64 i)] a ∧
    Blk wr gv 55 (cellsN (Sha.rnds ws s i).list ++ rest).toArray ∧ Keep [gv] w wr) 64 ⟨0, rfl, hF, hB.out, Keep.refl _ _⟩ ?_
  intro m a wr ⟨i, hmi, hFr, hBr, hk1⟩ J K hJ hK
  have HB := Lib.hid hBr
  have HK := Lib.hid hk1
  have HJ := Lib.hid hJ
  have HMI := Lib.hid hmi
  have hi64 : i ≤ 64 := by omega
  obtain ⟨f, ⟨f3, f5, f7, f8, f9, f14, f15, -⟩, rfl⟩ := hFr.open313
  simp only [f3, f5, f7, f8, f9, f14, f15]
  clear f3 f5 f7 f8 f9 f14 f15 hF hFr hBr hk1 hJ hB hmi
  conv => arg 2; whnf
  by_cases hlt : i < 64
  · clear hQ
    have h32 := rnds32 ws hs.out i
    have HN := Lib.hid (show Sha.rnds ws s (i + 1) = Sha.rnd (Sha.K.getD i 0) (ws.getD i 0) (Sha.rnds ws s i) from rfl)
    generalize Sha.rnds ws s i = t at *
    obtain ⟨a0, a1, a2, a3, a4, a5, a6, a7⟩ := t
    obtain ⟨l0, l1, l2, l3, l4, l5, l6, l7⟩ := h32
    simp only at l0 l1 l2 l3 l4 l5 l6 l7
    have L0 := Lib.hid l0
    have L4 := Lib.hid l4
    have CH := Lib.hid (ch_int a4 a5 a6 l4 l5 l6)
    have MJ := Lib.hid (maj_int a0 a1 a2 l0 l1 l2)
    have E0 := Lib.hid (S0_int a0 l0)
    have E4 := Lib.hid (S1_int a4 l4)
    have R0 := fun k W h => Lib.hid (right_any a0 k W L0.out h)
    have R4 := fun k W h => Lib.hid (right_any a4 k W L4.out h)
    obtain ⟨kb, ko, kc, rfl, hkc1, hkc2, hkcell⟩ := (hk.out.keep HK.out (fun _ g hg => by simpa using hkb.out g hg)).cells (by decide)
    have kcell : wr.cell? ⟨kb, ko + i, none⟩ = some (.int .u32 ((Sha.K.getD i 0 : Nat) : Int)) := by
      have := hkcell i (by rw [List.length_map, K_len]; exact hlt)
      rw [this]
      simp [show i < Sha.K.length by rw [K_len]; exact hlt]
    have wcell : wr.cell? ⟨gw, i, none⟩ = some (.int .u32 ((ws.getD i 0 : Nat) : Int)) := by
      rw [(hW.out.keep HK.out (by simpa using hne.out)).cell]
      simpa using cellsN_get ws i (by rw [hws.out]; exact hlt)
    have KC := Lib.hid kcell
    have WC := Lib.hid wcell
    have HLK := Lib.hid (show (Sha.K.map fun (n : Nat) => (n : Int)).length = 64 by rw [List.length_map, K_len])
    rw [HLK.out] at *
    generalize Sha.K.getD i 0 = k at *
    generalize ws.getD i 0 = x at *
    obtain ⟨cv1, cv2⟩ := hcv.out
    have cell : ∀ n v, (cellsN (Sha.St.mk a0 a1 a2 a3 a4 a5 a6 a7).list ++ rest)[n]? = some v → wr.cell? ⟨gv, n, none⟩ = some v := fun n v h => by rw [HB.out.cell]; simpa using h
    have CELL := Lib.hid cell
    have c4 := cell 4 (.int .u32 (a4 : Int)) rfl
    clear l0 l1 l2 l3 l4 l5 l6 l7 kcell wcell hkcell cell
    have b4 : (4 : Int) < 8 := by decide
    go_upto_region 31 with fail
    go_quiet ((go_at_call 27; exact Calls.quiet_of (R4 _ _ (by simp)).out))
    rw [E4.out]
    have CELL' : Hid (∀ n v, (cellsN (Sha.St.mk a0 a1 a2 a3 a4 a5 a6 a7).list ++ rest)[n]? = some v → (wr.drewN nq).cell? ⟨gv, n, none⟩ = some v) := Lib.hid CELL.out
    have KC' : Hid ((wr.drewN nq).cell? ⟨kb, ko + i, none⟩ = some (.int .u32 (k : Int))) := Lib.hid KC.out
    have WC' : Hid ((wr.drewN nq).cell? ⟨gw, i, none⟩ = some (.int .u32 (x : Int))) := Lib.hid WC.out
    have HB' := Lib.hid (HB.out.drewN nq)
    have HK' := Lib.hid (HK.out.drewN nq)
    clear CELL KC WC HB HK
    generalize wr.drewN nq = W1 at *
    clear nq
    have CELL := CELL'
    have KC := KC'
    have WC := WC'
    have HB := HB'
    have HK := HK'
    clear CELL' KC' WC' HB' HK'
    clear c4 E4 R4
    have c4 := CELL.out 4 (.int .u32 (a4 : Int)) rfl
    have c5 := CELL.out 5 (.int .u32 (a5 : Int)) rfl
    have c6 := CELL.out 6 (.int .u32 (a6 : Int)) rfl
    go_wp2_with fail
    go_quiet (fail)
    rw [CH.out]
    have CELL' : Hid (∀ n v, (cellsN (Sha.St.mk a0 a1 a2 a3 a4 a5 a6 a7).list ++ rest)[n]? = some v → (W1.drewN nq).cell? ⟨gv, n, none⟩ = some v) := Lib.hid CELL.out
    have KC' : Hid ((W1.drewN nq).cell? ⟨kb, ko + i, none⟩ = some (.int .u32 (k : Int))) := Lib.hid KC.out
    have WC' : Hid ((W1.drewN nq).cell? ⟨gw, i, none⟩ = some (.int .u32 (x : Int))) := Lib.hid WC.out
    have HB' := Lib.hid (HB.out.drewN nq)
    have HK' := Lib.hid (HK.out.drewN nq)
    clear CELL KC WC HB HK
    generalize W1.drewN nq = W2 at *
    clear nq
    have CELL := CELL'
    have KC := KC'
    have WC := WC'
    have HB := HB'
    have HK := HK'
    clear CELL' KC' WC' HB' HK'
    clear c4 c5 c6 CH
    have c7 := CELL.out 7 (.int .u32 (a7 : Int)) rfl
    have ck := KC.out
    have cw := WC.out
    have bi : (0 : Int) ≤ i ∧ (i : Int) < 64 := ⟨by omega, by omega⟩
    go_wp2_with fail
    go_quiet (fail)
    rw [sum5]
    have CELL' : Hid (∀ n v, (cellsN (Sha.St.mk a0 a1 a2 a3 a4 a5 a6 a7).list ++ rest)[n]? = some v → (W2.drewN nq).cell? ⟨gv, n, none⟩ = some v) := Lib.hid CELL.out
    have KC' : Hid ((W2.drewN nq).cell? ⟨kb, ko + i, none⟩ = some (.int .u32 (k : Int))) := Lib.hid KC.out
    have WC' : Hid ((W2.drewN nq).cell? ⟨gw, i, none⟩ = some (.int .u32 (x : Int))) := Lib.hid WC.out
    have HB' := Lib.hid (HB.out.drewN nq)
    have HK' := Lib.hid (HK.out.drewN nq)
    clear CELL KC WC HB HK
    generalize W2.drewN nq = W3 at *
    clear nq
    have CELL := CELL'
    have KC := KC'
    have WC := WC'
    have HB := HB'
    have HK := HK'
    clear CELL' KC' WC' HB' HK'
    clear c7 ck cw
    have c0 := CELL.out 0 (.int .u32 (a0 : Int)) rfl
    go_wp2_with fail
    go_quiet ((go_at_call 27; exact Calls.quiet_of (R0 _ _ (by simp)).out))
    rw [E0.out]
    have CELL' : Hid (∀ n v, (cellsN (Sha.St.mk a0 a1 a2 a3 a4 a5 a6 a7).list ++ rest)[n]? = some v → (W3.drewN nq).cell? ⟨gv, n, none⟩ = some v) := Lib.hid CELL.out
    have KC' : Hid ((W3.drewN nq).cell? ⟨kb, ko + i, none⟩ = some (.int .u32 (k : Int))) := Lib.hid KC.out
    have WC' : Hid ((W3.drewN nq).cell? ⟨gw, i, none⟩ = some (.int .u32 (x : Int))) := Lib.hid WC.out
    have HB' := Lib.hid (HB.out.drewN nq)
    have HK' := Lib.hid (HK.out.drewN nq)
    clear CELL KC WC HB HK
    generalize W3.drewN nq = W4 at *
    clear nq
    have CELL := CELL'
    have KC := KC'
    have WC := WC'
    have HB := HB'
    have HK := HK'
    clear CELL' KC' WC' HB' HK'
    clear c0 E0 R0
    have c0 := CELL.out 0 (.int .u32 (a0 : Int)) rfl
    have c1 := CELL.out 1 (.int .u32 (a1 : Int)) rfl
    have c2 := CELL.out 2 (.int .u32 (a2 : Int)) rfl
    go_wp2_with fail
    go_quiet (fail)
    rw [MJ.out]
    have CELL' : Hid (∀ n v, (cellsN (Sha.St.mk a0 a1 a2 a3 a4 a5 a6 a7).list ++ rest)[n]? = some v → (W4.drewN nq).cell? ⟨gv, n, none⟩ = some v) := Lib.hid CELL.out
    have KC' : Hid ((W4.drewN nq).cell? ⟨kb, ko + i, none⟩ = some (.int .u32 (k : Int))) := Lib.hid KC.out
    have WC' : Hid ((W4.drewN nq).cell? ⟨gw, i, none⟩ = some (.int .u32 (x : Int))) := Lib.hid WC.out
    have HB' := Lib.hid (HB.out.drewN nq)
    have HK' := Lib.hid (HK.out.drewN nq)
    clear CELL KC WC HB HK
    generalize W4.drewN nq = W5 at *
    clear nq
    have CELL := CELL'
    have KC := KC'
    have WC := WC'
    have HB := HB'
    have HK := HK'
    clear CELL' KC' WC' HB' HK'
    clear c0 c1 c2 MJ
    have HU := Lib.hid (show Sha.one k x ⟨a0, a1, a2, a3, a4, a5, a6, a7⟩ = (a7 + Sha.S1 a4 + Sha.ch a4 a5 a6 + k + x) % 4294967296 from rfl)
    obtain ⟨u, hu⟩ : ∃ u, u = (a7 + Sha.S1 a4 + Sha.ch a4 a5 a6 + k + x) % 4294967296 := ⟨_, rfl⟩
    rw [← hu] at HU ⊢
    obtain ⟨z0, hz0⟩ : ∃ z, z = Sha.S0 a0 := ⟨_, rfl⟩
    obtain ⟨z1, hz1⟩ : ∃ z, z = Sha.maj a0 a1 a2 := ⟨_, rfl⟩
    rw [← hz0, ← hz1]
    have HZ0 := Lib.hid hz0
    have HZ1 := Lib.hid hz1
    clear hu hz0 hz1
    go_upto_block 12 with fail
    go_wp2_with fail
    refine OutX.use (rl6 (fun a' w' => Fr 313 [(3, hv), (5, xv), (7, .slice (some ⟨kb, ko, none⟩) 64 kc), (8, pv), (9, .slice (some ⟨gw, 0, none⟩) 64 64), (14, .slice (some ⟨gv, 0, none⟩) 8 cv), (15, .int .i64 i), (18, .int .u32 (u : Int)), (19, .int .u32 (z0 : Int)), (20, .int .u32 (z1 : Int))] a' ∧
      Blk w' gv 55 (cellsN (shf (Sha.St.mk a0 a1 a2 a3 a4 a5 a6 a7).list 0) ++ rest).toArray ∧ Keep [gv] W5 w') _ W5 _ _ _ _ _ _ _ _ _ (Sha.St.mk a0 a1 a2 a3 a4 a5 a6 a7) rest gv cv hcv HB
      ⟨rfl, rfl, by repeat (first | exact trivial | refine ⟨rfl, ?_⟩)⟩ (fun a' w' h1 h2 h3 => ⟨h1, h2, h3⟩)) ?_
    intro a' w6 ⟨hF2, hB2, hk2⟩
    have HB6 := Lib.hid hB2
    have HK6 := Lib.hid (HK.out.trans hk2)
    have c4 : w6.cell? ⟨gv, 4, none⟩ = some (.int .u32 (a3 : Int)) := by rw [hB2.cell]; rfl
    have c0 : w6.cell? ⟨gv, 0, none⟩ = some (.int .u32 (a0 : Int)) := by rw [hB2.cell]; rfl
    have fr4 := hB2.frozen 4
    have fr0 := hB2.frozen 0
    obtain ⟨g, ⟨f3, f5, f7, f8, f9, f14, f15, f18, f19, f20, -⟩, rfl⟩ := hF2.open313
    simp only [f3, f5, f7, f8, f9, f14, f15, f18, f19, f20]
    clear f3 f5 f7 f8 f9 f14 f15 f18 f19 f20 hF2 hB2 hk2 CELL KC WC HB HK
    go_wp2_with fail
    refine Handed.intro (m - 1) (by have := HMI.out; omega) (HJ.out _ _ _ ⟨i + 1, by have := HMI.out; omega, ⟨rfl, rfl, by repeat (first | exact trivial | refine ⟨rfl, ?_⟩)⟩, ?_, (HK6.out.setCell (.inl (by simp)) _).setCell (.inl (by simp)) _⟩)
    have hb := (HB6.out.set_ 4 (.int .u32 (((a3 : Int) + u) % 4294967296))).set_ 0 (.int .u32 (((u : Int) + z0 + z1) % 4294967296))
    have e1 : ((a3 : Int) + u) % 4294967296 = (((a3 + u) % 4294967296 : Nat) : Int) := by omega
    have e2 : ((u : Int) + z0 + z1) % 4294967296 = (((u + z0 + z1) % 4294967296 : Nat) : Int) := by omega
    rw [e1, e2, row_set _ _ 4 _ (by rw [shf_length _ _ (by omega)]; decide), row_set _ _ 0 _ (by rw [List.length_set, shf_length _ _ (by omega)]; decide)] at hb
    have e3 : ((shf (Sha.St.mk a0 a1 a2 a3 a4 a5 a6 a7).list 0).set 4 ((a3 + u) % 4294967296)).set 0 ((u + z0 + z1) % 4294967296) = (Sha.rnd k x ⟨a0, a1, a2, a3, a4, a5, a6, a7⟩).list := by
      rw [HZ0.out, HZ1.out, ← HU.out]
      rfl
    rw [e3, ← HN.out] at hb
    rw [e1, e2]
    exact hb
  · obtain rfl : i = 64 := by omega
    have hQ' := hQ
    clear hQ
    go_wp2
    exact ⟨rfl, hQ' _ _ ⟨rfl, rfl, by repeat (first | exact trivial | refine ⟨rfl, ?_⟩)⟩ HB.out HK.out⟩
end Go.Proofs.Ytiiifcfgfmoiaaa
