/-
  The landed sha: bytes added.
-/
import Derived.Test.YtiiifcfgfmoiaaaHash6
import Derived.Test.YtiiifcfgfmoiaaaRMark
namespace Go.Proofs.Ytiiifcfgfmoiaaa
open Go.RowKit

theorem blks_app (x y : List Int) : ∀ q, 64 * q ≤ x.length → Sha.blks (x ++ y) q = Sha.blks x q
  | 0, _ => rfl
  | q + 1, h => by
    rw [Sha.blks, Sha.blks, blks_app x y q (by omega), List.drop_append_of_le_length (by omega), List.take_append_of_le_length (by simp; omega)]

/-- The rest of a message that fills no block. -/
def Rest (x r : List Int) : Prop := r.length = 64 ∧ (∀ b ∈ r, (Lit.int .u8 b).wf = true) ∧ r.take (x.length % 64) = x.drop (64 * (x.length / 64))
/-- A hash object that has taken x. -/
def HS (w : World) (H : Nat) (rp : Value) (x : List Int) : Prop := ∃ r, Rest x r ∧ Blk w H 73 (hcs (Sha.blks x (x.length / 64)) rp x.length r)
theorem HS.keep {w w' : World} {H : Nat} {rp : Value} {x : List Int} {S : List Nat} (h : HS w H rp x) (k : Keep S w w') (hg : H ∉ S) : HS w' H rp x := by
  obtain ⟨r, h1, h2⟩ := h
  exact ⟨r, h1, h2.keep k hg⟩

/-- The rest with y laid behind. -/
def laidIn (r : List Int) (m : Nat) (y : List Int) : List Int := r.take m ++ (y ++ r.drop (m + y.length))
theorem laidIn_length (r : List Int) (m : Nat) (y : List Int) (hr : r.length = 64) (hm : m + y.length ≤ 64) : (laidIn r m y).length = 64 := by
  simp [laidIn]; omega
theorem laidIn_wf (r : List Int) (m : Nat) (y : List Int) (hr : ∀ b ∈ r, (Lit.int .u8 b).wf = true) (hy : ∀ b ∈ y, (Lit.int .u8 b).wf = true) : ∀ b ∈ laidIn r m y, (Lit.int .u8 b).wf = true := by
  intro b hb
  simp only [laidIn, List.mem_append] at hb
  rcases hb with h | h | h
  · exact hr b (List.mem_of_mem_take h)
  · exact hy b h
  · exact hr b (List.mem_of_mem_drop h)
theorem laidIn_take (x r y : List Int) (h : Rest x r) (_hm : x.length % 64 + y.length ≤ 64) : (laidIn r (x.length % 64) y).take (x.length % 64 + y.length) = (x ++ y).drop (64 * (x.length / 64)) := by
  unfold laidIn
  have h1 := h.1
  rw [h.2.2, ← List.append_assoc, List.take_append_of_le_length (by simp; omega), List.take_of_length_le (by simp; omega), List.drop_append_of_le_length (by omega)]
theorem rest_less (x r y : List Int) (h : Rest x r) (hy : ∀ b ∈ y, (Lit.int .u8 b).wf = true) (hm : x.length % 64 + y.length < 64) :
    Rest (x ++ y) (laidIn r (x.length % 64) y) ∧ Sha.blks (x ++ y) ((x ++ y).length / 64) = Sha.blks x (x.length / 64) := by
  have e1 : (x ++ y).length / 64 = x.length / 64 := by simp; omega
  have e2 : (x ++ y).length % 64 = x.length % 64 + y.length := by simp; omega
  refine ⟨⟨laidIn_length r _ y h.1 (by omega), laidIn_wf r _ y h.2.1 hy, ?_⟩, ?_⟩
  · rw [e1, e2]
    exact laidIn_take x r y h (by omega)
  · rw [e1]
    exact blks_app x y _ (by omega)
theorem rest_full (x r y : List Int) (h : Rest x r) (hy : ∀ b ∈ y, (Lit.int .u8 b).wf = true) (hm : x.length % 64 + y.length = 64) :
    Rest (x ++ y) (laidIn r (x.length % 64) y) ∧ Sha.blks (x ++ y) ((x ++ y).length / 64) = Sha.blk (Sha.blks x (x.length / 64)) (laidIn r (x.length % 64) y) := by
  have e1 : (x ++ y).length / 64 = x.length / 64 + 1 := by simp; omega
  have e2 : (x ++ y).length % 64 = 0 := by simp; omega
  have h1 := laidIn_length r (x.length % 64) y h.1 (by omega)
  refine ⟨⟨h1, laidIn_wf r _ y h.2.1 hy, ?_⟩, ?_⟩
  · rw [e1, e2, List.drop_of_length_le (by simp; omega)]
    rfl
  · rw [e1, Sha.blks, blks_app x y _ (by omega)]
    have h2 := laidIn_take x r y h (by omega)
    rw [hm, List.take_of_length_le (by omega)] at h2
    rw [h2, List.take_of_length_le (by simp; omega)]

/-- copy's run, bytes that can be read into a block. -/
theorem run_copy_sl {P : Program} (w : World) (dT sT elem : TypeId) (hu : P.underlying dT = some (.slice elem)) (hsz : (P.info? elem).map (·.size) = some 1)
    (g off dLen dCap : Nat) (A : Option Addr) (sLen sCap : Nat) (cur : List Value) (t : TypeId) (hg : Blk w g t cur.toArray) (cs : List Value) (hpos : 0 < cs.length) (hn : cs.length = Nat.min sLen dLen) (hr : Rd w A cs)
    (hfit : off + cs.length ≤ cur.length) (h1 : ∀ v ∈ cs, v.oneCell' = true) :
    ∃ w', (∀ ty, (Builtin.copy_ #[dT, sT] ty #[.slice (some ⟨g, off, none⟩) dLen dCap, .slice A sLen sCap]).run P w = .ok (goInt cs.length) w') ∧ Blk w' g t (splice cur off cs).toArray ∧ Keep [g] w w' ∧ w'.heap.size = w.heap.size := by
  obtain ⟨b, o', rfl, hc⟩ := hr hpos
  refine ⟨w.setRow g (cur.toArray.toList.take off ++ cs ++ cur.toArray.toList.drop (off + cs.length)).toArray, fun ty => ?_, ?_, ?_, by simp⟩
  · exact run_copy_row (P := P) w dT sT ty elem g off dLen dCap ⟨b, o', none⟩ sLen sCap cur.toArray t cs hu hsz hg hn (fun j v hv => by rw [Addr.add_lit]; exact hc j v hv) (by simpa using hfit) h1
  · simpa [splice, Blk] using setRow_heap w g _ _ t _ hg
  · exact ⟨rfl, rfl, rfl, by simp, fun k _ hk => setRow_other w g k _ (by simpa using hk)⟩

theorem hcs_size9 (s : Sha.St) (rp : Value) (n n' : Nat) (r : List Int) : (hcs s rp n r).setIfInBounds 9 (.int .u64 (n' : Int)) = hcs s rp n' r := by
  simp [hcs, cellsN, Sha.St.list]
/-- 'x[l:]', x an array variable of one-cell elements. -/
theorem run_slice_arr_l {P : Program} {t e : TypeId} {n : Nat} (ht : P.underlying t = some (.array n e)) (hi : (P.info? e).map (·.size) = some 1) (a : Addr) (k : IntKind) (l : Nat) (hl : l < n) (W : World) :
    (Instr.sliceAt t (.pointer (some a)) (some (.int k l)) none none).run P W = .ok (.slice (some (a.add l)) (n - l) (n - l)) W := by
  obtain ⟨i, hi1, hi2⟩ := Option.map_eq_some_iff.1 hi
  have e1 : P.arrayLen t = n := by simp [Program.arrayLen, ht]
  have e2 : P.elem t = e := by simp [Program.elem, ht]
  have ht' : P.underlying t = some (.array (P.arrayLen t) (P.elem t)) := by rw [e1, e2]; exact ht
  rw [run_sliceAt_array_l W t a ht' k l (by omega) (by rw [e1]; omega), e1, e2]
  simp [sizeOf, typeInfo, hi1, hi2, slicedAt, show ¬ n = l by omega]

/-- The hash object, bytes laid into its rest. -/
theorem hcs_splice (s : Sha.St) (rp : Value) (n : Nat) (r y : List Int) (m : Nat) :
    (splice (hcs s rp n r).toList (10 + m) (y.map (Value.int .u8))).toArray = hcs s rp n (laidIn r m y) := by
  have h : (cellsN s.list).length = 8 := by simp [cellsN, Sha.St.list]
  apply Array.toList_inj.1
  show splice (cellsN s.list ++ (rp :: .int .u64 n :: r.map (Value.int .u8))) (10 + m) (y.map (Value.int .u8)) = cellsN s.list ++ (rp :: .int .u64 n :: (laidIn r m y).map (Value.int .u8))
  unfold splice
  rw [List.take_append, List.drop_append, h, List.take_of_length_le (by omega), List.drop_of_length_le (by omega), show 10 + m - 8 = m + 1 + 1 by omega, List.take_succ_cons, List.take_succ_cons,
    show 10 + m + (y.map (Value.int .u8)).length - 8 = m + y.length + 1 + 1 by simp; omega, List.drop_succ_cons, List.drop_succ_cons]
  simp [laidIn]

/-- The tables that a hash object points into. -/
def KT (w : World) (g : Nat) : Prop := g < w.heap.size ∧ ∀ i, i < 64 → w.cell? ⟨g, 11 + i, none⟩ = some (.int .u32 ((Sha.K.getD i 0 : Nat) : Int))
theorem KT.keep {w w' : World} {g : Nat} {S : List Nat} (h : KT w g) (k : Keep S w w') (hg : g ∉ S) : KT w' g :=
  ⟨Nat.lt_of_lt_of_le h.1 k.size, fun i hi => (k.cell h.1 hg).trans (h.2 i hi)⟩

noncomputable def had0 : Code := loopOf Try.f24 0

set_option maxRecDepth 100000 in
set_option maxHeartbeats 4000000 in
theorem al0 (R : Act → World → Prop) (a : Act) (w : World) (H g : Nat) (v : Value) (x l : List Int) (hl : Hid (x.length + l.length ≤ 2305843009213693951)) (hgH : Hid (g ≠ H)) (hK : Hid (KT w g))
    (hS : Hid (HS w H (.pointer (some ⟨g, 11, none⟩)) x)) (hv : Hid (Sl .u8 w v l)) (hvb : Hid (0 < l.length → ∀ b, v.ownBlock = some b → b ≠ H))
    (hF : Fr 39 [(0, .pointer (some ⟨H, 0, none⟩)), (1, v)] a)
    (hQ : ∀ a' w', Fr 39 [] a' → HS w' H (.pointer (some ⟨g, 11, none⟩)) (x ++ l) → Keep [H] w w' → R a' w') :
    Code.wp Try.prog (.loop had0) (OutX 0 R) a w := by
  refine wp_loop_ghost_k (fun m a wr => ∃ j v, m + j = l.length ∧ Fr 39 [(0, .pointer (some ⟨H, 0, none⟩)), (1, v)] a ∧ Sl .u8 w v (l.drop j) ∧ (0 < l.length → ∀ b, v.ownBlock = some b → b ≠ H) ∧
    HS wr H (.pointer (some ⟨g, 11, none⟩)) (x ++ l.take j) ∧ Keep [H] w wr) l.length ⟨0, v, rfl, hF, hv.out, hvb.out, by simpa using hS.out, Keep.refl _ _⟩ ?_
  clear hv hvb hF hS
  intro m a wr ⟨j, v, hmj, hFr, hv0, hvb, hS, hk⟩ J K hJ hK1
  have HV := Lib.hid hv0
  have hv := hv0.keep hk (fun hp b hb => by simpa using hvb (by simp at hp; omega) b hb)
  clear hv0
  have HVB := Lib.hid hvb
  have HK := Lib.hid hk
  have HJ := Lib.hid hJ
  have HMJ := Lib.hid hmj
  have hKT := hK.out.keep HK.out (by simpa using hgH.out)
  obtain ⟨f, ⟨f0, f1, -⟩, rfl⟩ := hFr.open39
  simp only [f0, f1]
  clear f0 f1 hFr hk hJ hvb
  conv => arg 2; whnf
  by_cases hlt : j < l.length
  · clear hQ
    obtain ⟨r, hrest, hB⟩ := hS
    obtain ⟨y, hy⟩ : ∃ y, y = x ++ l.take j := ⟨_, rfl⟩
    rw [← hy] at hrest hB
    have hyl : y.length = x.length + j := by rw [hy]; simp; omega
    obtain ⟨m1, hm1⟩ : ∃ m1, m1 = y.length % 64 := ⟨_, rfl⟩
    obtain ⟨L, hL⟩ : ∃ L, L = l.drop j := ⟨_, rfl⟩
    have hLl : L.length = l.length - j := by rw [hL]; simp
    rw [← hL] at hv HV
    obtain ⟨k, hk⟩ : ∃ k, k = min L.length (64 - m1) := ⟨_, rfl⟩
    obtain ⟨Y, hY⟩ : ∃ Y, Y = L.take k := ⟨_, rfl⟩
    have hYl : Y.length = k := by rw [hY, List.length_take_of_le (by omega)]
    obtain ⟨A, c, rfl, hc1, hc2, hrd, hwfL⟩ := hv
    have hYw : ∀ b ∈ Y, (Lit.int .u8 b).wf = true := fun b hb => hwfL b (by rw [hY] at hb; exact List.mem_of_mem_take hb)
    have hrdY : Rd wr.drew A (Y.map (Value.int .u8)) := by
      have h1 := hrd.take k
      rw [← List.map_take, ← hY] at h1
      exact h1.keep0 ((Keep.refl [] wr).drew)
    have hs74 := hcs_size (Sha.blks y (y.length / 64)) (.pointer (some ⟨g, 11, none⟩)) y.length r hrest.1
    have hs74' : (hcs (Sha.blks y (y.length / 64)) (.pointer (some ⟨g, 11, none⟩)) y.length r).toList.length = 74 := by rw [Array.length_toList]; exact hs74
    obtain ⟨W2, hcp, hB2, hk2, hz2⟩ := run_copy_sl (P := Try.prog) wr.drew 24 24 5 Try.underlying24 (by kernel_rfl) H (10 + m1) (64 - m1) (64 - m1) A L.length c
      (hcs (Sha.blks y (y.length / 64)) (.pointer (some ⟨g, 11, none⟩)) y.length r).toList 73 (by rw [Array.toArray_toList]; exact hB.drew) (Y.map (Value.int .u8)) (by rw [List.length_map]; omega) (by rw [List.length_map, hYl, hk]) hrdY
      (by show 10 + m1 + (Y.map (Value.int .u8)).length ≤ (hcs (Sha.blks y (y.length / 64)) (.pointer (some ⟨g, 11, none⟩)) y.length r).toList.length; rw [List.length_map, hs74']; omega) (ints_one _ _)
    rw [hcs_splice] at hB2
    have c9 : wr.cell? ⟨H, 9, none⟩ = some (.int .u64 y.length) := by rw [hB.cell]; rfl
    have hmT : (y.length : Int).tmod 64 = (m1 : Int) := by rw [hm1]; rfl
    rw [List.length_map, hYl] at hcp
    have hsl : ∀ W, (Instr.sliceAt 71 (.pointer (some ⟨H, 10, none⟩)) (some (.int .u64 m1)) none none).run Try.prog W = .ok (.slice (some ⟨H, 10 + m1, none⟩) (64 - m1) (64 - m1)) W := fun W => by
      rw [run_slice_arr_l (P := Try.prog) (t := 71) (e := 5) (n := 64) Try.underlying71 (by kernel_rfl) ⟨H, 10, none⟩ .u64 m1 (by omega) W, Addr.add_lit]
    have hLpos : (0 : Int) < L.length := by omega
    have HY := Lib.hid hy
    have HYL := Lib.hid hyl
    have HM1 := Lib.hid hm1
    have HL := Lib.hid hL
    have HLl := Lib.hid hLl
    have HKM := Lib.hid hk
    have HYY := Lib.hid hY
    have HYl := Lib.hid hYl
    have HR := Lib.hid hrest
    have HB := Lib.hid hB
    have HB2 := Lib.hid hB2
    have HK2 := Lib.hid hk2
    have HYW := Lib.hid hYw
    have HKT := Lib.hid hKT
    clear hy hyl hm1 hL hLl hk hY hYl hrest hB hB2 hk2 hz2 hYw hKT hs74 hrdY hrd hwfL hmj
    generalize y.length = ny at *
    generalize L.length = nL at *
    go_upto_region 1 with fail
    go_region_with (fail)
    go_simp
    have c9' : W2.cell? ⟨H, 9, none⟩ = some (.int .u64 ny) := by rw [HB2.out.cell]; rfl
    have f9' := HB2.out.frozen 9
    have hkn : k ≤ nL := by have := HKM.out; omega
    have hkc : k ≤ c := by omega
    have hbn : (ny : Int) + k ≤ 2305843009213693951 := by have h1 := HYL.out; have h2 := HLl.out; have h3 := hl.out; omega
    clear c9 hcp hsl
    have hB3 := HB2.out.set_ 9 (.int .u64 ((ny : Int) + k))
    rw [show (ny : Int) + k = ((ny + k : Nat) : Int) by omega, hcs_size9] at hB3
    have hk3 : Keep [H] w (W2.setCell ⟨H, 9, none⟩ (.int .u64 ((ny + k : Nat) : Int))) := (HK.out.drew.trans HK2.out).setCell (.inl (by simp)) _
    have hyy : y ++ Y = x ++ l.take (j + k) := by rw [HY.out, HYY.out, HL.out, List.append_assoc, ← List.take_add]
    have hyn : y.length = ny := by rw [HYL.out, HY.out]; simp; omega
    have hyk : (y ++ Y).length = ny + k := by rw [List.length_append, hyn, HYl.out]
    have HB3 := Lib.hid hB3
    have HK3 := Lib.hid hk3
    have HYY2 := Lib.hid hyy
    have HYN := Lib.hid hyn
    have HYK := Lib.hid hyk
    have hmk : m1 + k ≤ 64 := by have h1 := HM1.out; have h2 := HKM.out; omega
    have hLlen : L.length = nL := by rw [HL.out, HLl.out]; simp
    have hdrop : L.drop k = l.drop (j + k) := by rw [HL.out, List.drop_drop]
    have hdone : ∀ w', HS w' H (.pointer (some ⟨g, 11, none⟩)) (y ++ Y) → Keep [H] w w' → ∀ (v' : Value) (a' : Act), Fr 39 [(0, .pointer (some ⟨H, 0, none⟩)), (1, v')] a' →
        (v' = .slice A (nL - k) (c - k) ∧ c = k ∨ v' = .slice (A.map fun a => a.add k) (nL - k) (c - k)) → Handed J m a' w' := fun w' hS hk v' a' hF hv' => by
      have h0 := HV.out
      rw [← hLlen] at h0
      rw [hyy] at hS
      refine Handed.intro (m - k) (by have := HMJ.out; have := HLl.out; have := HKM.out; have := HM1.out; omega) (HJ.out _ _ _ ⟨j + k, v', by have := HMJ.out; have := HLl.out; omega, hF, ?_, ?_, hS, hk⟩)
      · rw [← hdrop]
        rw [← hLlen] at hv'
        have hkL : k ≤ L.length := by omega
        have hcL : L.length ≤ c := by omega
        rcases hv' with ⟨rfl, hck⟩ | rfl
        · exact h0.drop hkL (fun h => by omega)
        · exact h0.drop hkL (fun _ => rfl)
      · intro hp b hb
        refine HVB.out hp b ?_
        rcases hv' with ⟨rfl, hck⟩ | rfl
        · cases A with
          | none => simp [Value.ownBlock] at hb
          | some a0 => exact hb
        · cases A with
          | none => simp [Value.ownBlock] at hb
          | some a0 =>
            have hab : (a0.add k).block = a0.block := by unfold Addr.add; split <;> rfl
            simpa [Value.ownBlock, hab] using hb
    have HD := Lib.hid hdone
    clear hB3 hk3 hyy hyn hyk hdone hLlen hdrop
    have e9 : (ny : Int) + k = ((ny + k : Nat) : Int) := by omega
    by_cases hfull : m1 + k < 64
    · have hrl := rest_less y r Y HR.out HYW.out (by have h1 := HYN.out; have h2 := HM1.out; have h3 := HYl.out; rw [h1, h3, ← h2]; exact hfull)
      rw [HYN.out, ← HM1.out, HYK.out] at hrl
      have hS3 : HS (W2.setCell ⟨H, 9, none⟩ (.int .u64 ((ny : Int) + k))) H (.pointer (some ⟨g, 11, none⟩)) (y ++ Y) := by
        refine ⟨laidIn r m1 Y, hrl.1, ?_⟩
        rw [HYK.out, hrl.2, e9]
        exact HB3.out
      have hk3 : Keep [H] w (W2.setCell ⟨H, 9, none⟩ (.int .u64 ((ny : Int) + k))) := by rw [e9]; exact HK3.out
      have HS3 := Lib.hid hS3
      have HKK3 := Lib.hid hk3
      have hb : (((ny : Int) + k) % 64 == 0) = false := by have := HM1.out; have := HKM.out; simp; omega
      have hkc' : (c : Nat) = k ∨ ¬ c = k := by omega
      clear hrl hS3 hk3 e9
      rcases hkc' with hck | hck
      · have HCK := Lib.hid hck
        go_wp2_with fail
        refine HD.out _ HS3.out HKK3.out _ _ ⟨rfl, rfl, rfl, rfl, trivial⟩ (.inl ⟨by show Value.slice A (nL - k) 0 = .slice A (nL - k) (c - k); rw [HCK.out, Nat.sub_self], HCK.out⟩)
      · have HCK := Lib.hid hck
        go_wp2_with fail
        refine HD.out _ HS3.out HKK3.out _ _ ⟨rfl, rfl, rfl, rfl, trivial⟩ (.inr rfl)
    · have h64 : m1 + k = 64 := by omega
      have hrl := rest_full y r Y HR.out HYW.out (by have h1 := HYN.out; have h2 := HM1.out; have h3 := HYl.out; rw [h1, h3, ← h2]; exact h64)
      rw [HYN.out, ← HM1.out, HYK.out] at hrl
      have hmx := mix_any H g (Sha.blks y (ny / 64)) (ny + k) (laidIn r m1 Y) (W2.setCell ⟨H, 9, none⟩ (.int .u64 ((ny + k : Nat) : Int))) hrl.1.1 hrl.1.2.1 (blks32 _ _) HB3.out
        ((hK.out.keep HK3.out (by simpa using hgH.out)).2) ((hK.out.keep HK3.out (by simpa using hgH.out)).1)
      rw [← e9] at hmx
      have HMX := Lib.hid hmx
      have hk3 : Keep [H] w (W2.setCell ⟨H, 9, none⟩ (.int .u64 ((ny : Int) + k))) := by rw [e9]; exact HK3.out
      have HKK3 := Lib.hid hk3
      have HRL := Lib.hid hrl
      have hb : (((ny : Int) + k) % 64 == 0) = true := by
        have h1 := HM1.out
        have h2 : ((ny : Int) + k) % 64 = 0 := by omega
        rw [h2]; rfl
      have hkc' : (c : Nat) = k ∨ ¬ c = k := by omega
      clear hrl hmx e9 hk3
      rcases hkc' with hck | hck
      · have HCK := Lib.hid hck
        go_wp2_with (go_at_call 33; with_reducible refine HMX.out.mono ?_; rintro e w4 ⟨rfl, hB4, hk4⟩; have HB4 := Lib.hid hB4; have HK4 := Lib.hid hk4; clear hB4 hk4)
        refine HD.out _ ⟨_, HRL.out.1, by rw [HYK.out, HRL.out.2]; exact HB4.out⟩ (HKK3.out.trans HK4.out) _ _ ⟨rfl, rfl, rfl, rfl, trivial⟩ (.inl ⟨by show Value.slice A (nL - k) 0 = .slice A (nL - k) (c - k); rw [HCK.out, Nat.sub_self], HCK.out⟩)
      · have HCK := Lib.hid hck
        go_wp2_with (go_at_call 33; with_reducible refine HMX.out.mono ?_; rintro e w4 ⟨rfl, hB4, hk4⟩; have HB4 := Lib.hid hB4; have HK4 := Lib.hid hk4; clear hB4 hk4)
        refine HD.out _ ⟨_, HRL.out.1, by rw [HYK.out, HRL.out.2]; exact HB4.out⟩ (HKK3.out.trans HK4.out) _ _ ⟨rfl, rfl, rfl, rfl, trivial⟩ (.inr rfl)
  · obtain rfl : j = l.length := by have := HMJ.out; omega
    have hQ' := hQ
    clear hQ
    have hLn : l.drop l.length = [] := List.drop_length
    rw [hLn] at hv
    obtain ⟨A, c, rfl, hc1, hc2, -, -⟩ := hv
    rw [List.take_length] at hS
    have HSS := Lib.hid hS
    clear hS
    go_wp2
    exact ⟨rfl, hQ' _ _ ⟨rfl, rfl, trivial⟩ HSS.out HK.out⟩

set_option maxRecDepth 100000 in
theorem add_any (w : World) (H g : Nat) (v : Value) (x l : List Int) (hl : x.length + l.length ≤ 2305843009213693951) (hgH : g ≠ H) (hK : KT w g)
    (hS : HS w H (.pointer (some ⟨g, 11, none⟩)) x) (hv : Sl .u8 w v l) (hvb : 0 < l.length → ∀ b, v.ownBlock = some b → b ≠ H) :
    Calls Try.prog 24 #[.pointer (some ⟨H, 0, none⟩), v] w fun e w' => e = .returned (.tuple #[]) ∧ HS w' H (.pointer (some ⟨g, 11, none⟩)) (x ++ l) ∧ Keep [H] w w' := by
  have HL := Lib.hid hl
  have HG := Lib.hid hgH
  have HK := Lib.hid hK
  have HSS := Lib.hid hS
  have HV := Lib.hid hv
  have HVB := Lib.hid hvb
  clear hl hgH hK hS hv hvb
  go_enter Try.func24, Try.ntmps24
  go_wp2_with fail
  refine OutX.use (al0 (fun a' w' => Fr 39 [] a' ∧ HS w' H (.pointer (some ⟨g, 11, none⟩)) (x ++ l) ∧ Keep [H] w w') _ w H g v x l HL HG HK HSS HV HVB
    ⟨rfl, rfl, by repeat (first | exact trivial | refine ⟨rfl, ?_⟩)⟩ (fun a' w' h1 h2 h3 => ⟨h1, h2, h3⟩)) ?_
  intro a' w5 ⟨hF5, hS5, hk5⟩
  have HS5 := Lib.hid hS5
  have HK5 := Lib.hid hk5
  obtain ⟨f, -, rfl⟩ := hF5.open39
  clear hF5 hS5 hk5
  go_wp2_with fail
  go_end0
  exact ⟨rfl, HS5.out, HK5.out⟩
end Go.Proofs.Ytiiifcfgfmoiaaa
