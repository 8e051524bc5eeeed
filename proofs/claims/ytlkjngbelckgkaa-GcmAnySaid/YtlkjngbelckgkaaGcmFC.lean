/-
  The landed gcm: the counter's block.
  The landed gcm: a hash's round; the tag: their drawn regions.
-/
import Derived.Test.YtlkjngbelckgkaaGcmFB
import Derived.Test.YtlkjngbelckgkaaGcmLaw
namespace Go.Proofs.Ytlkjngbelckgkaa
open Go.RowKit

namespace Gcm
/-- The counter's block behind so many rounds of its loop. -/
def cL (nn : List Int) (n : Nat) : Nat → List Int
  | 0 => nn ++ [0, 0, 0, 0]
  | i + 1 => (cL nn n i).set (12 + i) ((n / 2 ^ (24 - 8 * i) % 256 : Nat) : Int)
theorem cL_length (nn : List Int) (h : nn.length = 12) (n i : Nat) : (cL nn n i).length = 16 := by
  induction i with
  | zero => simp [cL, h]
  | succ i ih => simp [cL, ih]
theorem cL_ctr (nn : List Int) (h : nn.length = 12) (n : Nat) (hn : n < 65536) : cL nn n 4 = ctr nn n := by
  have e : ∀ (x : List Int) (j : Nat) (v : Int), (nn ++ x).set (12 + j) v = nn ++ x.set j v := fun x j v => by
    rw [List.set_append_right _ _ (by omega), h, Nat.add_sub_cancel_left]
  simp only [cL, e, ctr]
  rw [show n / 2 ^ (24 - 8 * 0) % 256 = 0 by omega, show n / 2 ^ (24 - 8 * 1) % 256 = 0 by omega, show n / 2 ^ (24 - 8 * 2) % 256 = n / 256 by omega, show n / 2 ^ (24 - 8 * 3) % 256 = n % 256 by omega]
  rfl
end Gcm
/-- copy's run, bytes that can be read into a block. -/
theorem run_copy_slN {P : Program} (w : World) (dT sT elem : TypeId) (hu : P.underlying dT = some (.slice elem)) (hsz : (P.info? elem).map (·.size) = some 1)
    (g off dLen dCap : Nat) (A : Option Addr) (sLen sCap : Nat) (cur : List Value) (t : TypeId) (hg : Blk w g t cur.toArray) (cs : List Value) (hpos : 0 < cs.length) (hn : cs.length = Nat.min sLen dLen) (hr : Rd w A cs)
    (hfit : off + cs.length ≤ cur.length) (h1 : ∀ v ∈ cs, v.oneCell' = true) :
    ∃ w', (∀ ty, (Builtin.copy_ #[dT, sT] ty #[.slice (some ⟨g, off, none⟩) dLen dCap, .slice A sLen sCap]).run P w = .ok (goInt cs.length) w') ∧ Blk w' g t (splice cur off cs).toArray ∧ Keep [g] w w' ∧ w'.heap.size = w.heap.size := by
  obtain ⟨b, o', rfl, hc⟩ := hr hpos
  refine ⟨w.setRow g (cur.toArray.toList.take off ++ cs ++ cur.toArray.toList.drop (off + cs.length)).toArray, fun ty => ?_, ?_, ?_, by simp⟩
  · exact run_copy_row (P := P) w dT sT ty elem g off dLen dCap ⟨b, o', none⟩ sLen sCap cur.toArray t cs hu hsz hg hn (fun j v hv => by rw [Addr.add_lit]; exact hc j v hv) (by simpa using hfit) h1
  · simpa [splice, Blk] using setRow_heap w g _ _ t _ hg
  · exact ⟨rfl, rfl, rfl, by simp, fun k _ hk => setRow_other w g k _ (by simpa using hk)⟩

theorem nonceCells' : (Try.prog.info? 25).map (·.size) = some 12 := by kernel_rfl

set_option maxRecDepth 100000 in
set_option maxHeartbeats 8000000 in
theorem counter_any (nn : List Int) (hnn : N12 nn) (n : Nat) (hn : n < 65536) (w : World) :
    Calls Try.prog 30 #[arr nn, .int .u32 (n : Nat)] w fun e w' => e = .returned (arr (Gcm.ctr nn n)) ∧ Keep [] w w' := by
  obtain ⟨D, hD⟩ : ∃ D, D = (nn.map (Value.int .u8)).toArray := ⟨_, rfl⟩
  have HD := Lib.hid hD
  obtain ⟨F, hF⟩ : ∃ F, F = ((Gcm.ctr nn n).map (Value.int .u8)).toArray := ⟨_, rfl⟩
  have HF := Lib.hid hF
  obtain ⟨Z, hZ, hZs, hZi⟩ := blk16
  have HZ := Lib.hid hZ
  have HZS := Lib.hid hZs
  have HZI := Lib.hid hZi
  rw [arr_agg, arr_agg, ← hD, ← hF]
  clear hF hZ hZs hZi hD
  go_enter Try.func30, Try.ntmps30
  go_upto_region 2 with (first
    | (have _q := HB2; refine wl_alloc_rowZ rfl _ rfl Z 16 HZI.out ?_; intro w3 hB3 hk3 hz3; have HB3 := Lib.hid hB3; have HK3 := Lib.hid hk3; clear hB3 hk3 hz3)
    | (have _q := HB1; refine wl_alloc_rowZ rfl _ rfl Z 16 HZI.out ?_; intro w2 hB2 hk2 hz2; have HB2 := Lib.hid hB2; have HK2 := Lib.hid hk2; clear hB2 hk2 hz2)
    | (refine wl_box rfl _ _ rfl D rfl ?_; intro w1 hB1 hk1 hz1; have HB1 := Lib.hid hB1; have HK1 := Lib.hid hk1; clear hB1 hk1 hz1))
  obtain ⟨B, hB⟩ : ∃ B, B = w.heap.size := ⟨_, rfl⟩
  obtain ⟨C, hC⟩ : ∃ C, C = w1.heap.size := ⟨_, rfl⟩
  obtain ⟨G, hG⟩ : ∃ G, G = w2.heap.size := ⟨_, rfl⟩
  have HN := Lib.hid (show B ≠ C ∧ B ≠ G ∧ C ≠ G ∧ w.heap.size ≤ G ∧ w.heap.size ≤ C by
    have h1 := HB1.out.lt
    have h2 := HB2.out.lt
    have h3 := HK2.out.size
    have h4 := HK1.out.size
    omega)
  have HBB := Lib.hid (show Blk w3 B 25 (nn.map (Value.int .u8)).toArray by rw [hB, ← HD.out]; exact (HB1.out.keep HK2.out (by simp)).keep HK3.out (by simp))
  have HBC := Lib.hid (show Blk w3 C 23 Z by rw [hC]; exact HB2.out.keep HK3.out (by simp))
  have HBG := Lib.hid (show Blk w3 G 23 (List.replicate 16 (Value.int .u8 0)).toArray by rw [hG, ← HZ.out]; exact HB3.out)
  have HK := Lib.hid ((HK1.out.trans HK2.out).trans HK3.out)
  rw [← hG, ← hB, ← hC]
  clear hG hB hC HB1 HB2 HB3 HK1 HK2 HK3 _q HZ
  obtain ⟨w4, hcp, hB4, hk4, hz4⟩ := run_copy_slN (P := Try.prog) w3.drew 26 26 5 Try.underlying26 u8sz G 0 16 16 (some ⟨B, 0, none⟩) 12 12 (List.replicate 16 (Value.int .u8 0)) 23 HBG.out.drew (nn.map (Value.int .u8)) (by simp [hnn.1]) (by simp [hnn.1]) (by simpa using Rd.of_blk HBB.out.drew) (by simp [hnn.1]) (ints_one _ _)
  have HB4 := Lib.hid (show Blk w4 G 23 ((Gcm.cL nn n 0).map (Value.int .u8)).toArray by
    have : splice (List.replicate 16 (Value.int .u8 0)) 0 (nn.map (Value.int .u8)) = (Gcm.cL nn n 0).map (Value.int .u8) := by
      simp [splice, Gcm.cL, hnn.1]
    rw [← this]; exact hB4)
  have HK4 := Lib.hid (show Keep [G] w3 w4 from ((Keep.refl [G] w3).drew).trans hk4)
  clear hB4 hk4 hz4
  go_region_with fail
  all_goals
    go_wp2_with fail
    go_loopw [10] (fun s10 wr => ∃ i : Nat, i ≤ 4 ∧ s10 = .int .i64 i ∧ Blk wr G 23 ((Gcm.cL nn n i).map (Value.int .u8)).toArray ∧ Keep [G] w4 wr) (fun s10 _ => 4 - (intOf s10).toNat)
    case atStart => exact ⟨0, by omega, rfl, HB4.out, Keep.refl _ _⟩
    case round =>
      obtain ⟨i, hi, rfl, hB, hk1⟩ := hrel
      have HB := Lib.hid hB
      have HK1 := Lib.hid hk1
      clear hB hk1 hcp
      by_cases hlt : i < 4
      · have hwm : IntKind.i64.wrap (8 * (i : Int)) = 8 * i := IntWalk.i64_in _ ⟨by omega, by omega⟩
        have hws : IntKind.i64.wrap (24 - 8 * (i : Int)) = 24 - 8 * i := IntWalk.i64_in _ ⟨by omega, by omega⟩
        have hw8 : IntKind.i64.wrap (12 + (i : Int)) = 12 + i := IntWalk.i64_in _ ⟨by omega, by omega⟩
        have ht8 : (12 + (i : Int)).toNat = 12 + i := by omega
        have bi8 : (0 : Int) ≤ 12 + (i : Int) ∧ 12 + (i : Int) < 16 := ⟨by omega, by omega⟩
        have hl16 := Gcm.cL_length nn hnn.1 n i
        have g3 : ∃ x, wr.cell? ⟨G, 12 + i, none⟩ = some (.int .u8 x) := ⟨(Gcm.cL nn n i)[12 + i]'(by omega), by
          rw [HB.out.cell]; simp [hl16, hlt]⟩
        obtain ⟨x, g3⟩ := g3
        have z1 := HB.out.frozen (12 + i)
        go_wp2_with fail
        refine ⟨⟨i + 1, by omega, by go_num, ?_, ?_⟩, by simp [intOf]; omega⟩
        · have := HB.out.set_ (12 + i) (.int .u8 ((n / 2 ^ (24 - 8 * i) % 256 : Nat) : Int))
          rw [List.setIfInBounds_toArray, ← List.map_set] at this
          push_cast at this
          exact this
        · exact HK1.out.setCell (.inl (by simp)) _
      · obtain rfl : i = 4 := by omega
        have HBF := Lib.hid (show Blk wr G 23 F by
          have := HB.out
          rw [Gcm.cL_ctr nn hnn.1 n hn] at this
          rw [HF.out]; exact this)
        have HBC2 := Lib.hid ((HBC.out.keep HK4.out (by have := HN.out; simp; omega)).keep HK1.out (by have := HN.out; simp; omega))
        have HFS := Lib.hid (show F.size = 16 by rw [HF.out]; simp [Gcm.ctr, hnn.1])
        have HF1 := Lib.hid (show F.all (·.oneCell') = true by rw [HF.out]; exact arr_cell _)
        go_wp2_with (first
          | (refine wl_load_row rfl _ _ rfl G rfl 16 5 Try.underlying23 _ F HBF.out (by rw [HFS.out]; exact blkCells) ?_)
          | (refine wl_store_row rfl _ _ _ rfl C rfl F rfl _ _ HBC2.out (by rw [HFS.out]; exact blkCells) (by rw [HFS.out]; exact HZS.out) HF1.out ?_; intro w5 hB5 hk5 hz5))
        (try simp only [Exit.inBlock, Exit.then])
        refine bodyPost_ret (v := .agg F) ?_ rfl ?_
        · refine results_cell_row Try.results30 _ w5 C 23 F (0, 0) _ ?_ hB5 Try.underlying23 rfl ?_
          · rfl
          · rw [HFS.out]; exact blkCells
        · exact ⟨rfl, ((HK.out.trans' HK4.out (fun q hq => by right; have := HN.out; simp at hq; omega)).trans' HK1.out (fun q hq => by right; have := HN.out; simp at hq; omega)).trans' hk5 (fun q hq => by right; have := HN.out; simp at hq; omega)⟩

theorem ow_load_midD {P : Program} {o : Oper} {a : Act} {w : World} {K : Act → World → Prop} {Q : Exit → Act → World → Prop} (ty : TypeId) (x : Operand) (ho : o.op = .load ty x) (b : Nat) (pre l post : List Value) (off : Nat) (hoff : off = pre.length)
    (hx : a.eval x = .pointer (some ⟨b, off, none⟩)) (d : TypeDesc) (hu : P.underlying ty = some d) (hd : d.isRow = true) (hi : (P.info? ty).map (·.size) = some l.length) (t : TypeId) (hB : Blk w b t (pre ++ (l ++ post)).toArray)
    (h : K (a.put o.dst (.agg l.toArray)) w) : o.wp P a w K Q := by
  subst hoff
  refine wp_load_mid ty x ho b _ hx l _ ?_ hu hd hi h
  intro j v hv
  have hj := (List.getElem?_eq_some_iff.1 hv).1
  rw [hB.cell]
  simp only [List.getElem?_toArray]
  rw [List.getElem?_append_right (by omega), Nat.add_sub_cancel_left, List.getElem?_append_left hj]
  exact hv
/-- The cells of a sealer: its key, and the field's key. -/
def SB (w : World) (s p h : Nat) : Prop := Blk w s 47 ([Value.pointer (some ⟨p, 0, none⟩)] ++ ((ec h).toList ++ [])).toArray
theorem SB.keep {w w' : World} {s p h : Nat} {S : List Nat} (hb : SB w s p h) (k : Keep S w w') (hg : s ∉ S) : SB w' s p h := Blk.keep hb k hg
theorem ctr_b16 {nn : List Int} (h : N12 nn) (n : Nat) (hn : n < 65536) : B16 (Gcm.ctr nn n) := ⟨Gcm.ctr_length nn h.1 n, Gcm.ctr_wf h.2 n hn⟩
theorem SB.key {w : World} {s p h : Nat} (hb : SB w s p h) : w.cell? ⟨s, 0, none⟩ = some (.pointer (some ⟨p, 0, none⟩)) := by rw [Blk.cell hb]; rfl

noncomputable def hfoll_reg4 : Code := regionOf Try.f31 4
set_option maxRecDepth 100000 in
set_option maxHeartbeats 8000000 in
theorem foll_reg4 (R : Act → World → Prop) (a : Act) (w2 : World) (s p V T n h : Nat) (l : List Int) (D : Array Value) (v2 v6 v8 : Value) (hl : B16 l) (hDl : Hid (D = (l.map (Value.int .u8)).toArray)) (hD : Hid (D.size = 16)) (hn : n < 2 ^ 128) (hh : h < 2 ^ 128)
    (hBV : Hid (Blk w2 V 43 (ec n))) (hBT : Hid (Blk w2 T 23 D)) (hBS : Hid (SB w2 s p h))
    (hF : Fr 28 [(0, .pointer (some ⟨s, 0, none⟩)), (2, v2), (4, .pointer (some ⟨V, 0, none⟩)), (6, v6), (7, .pointer (some ⟨T, 0, none⟩)), (8, v8)] a)
    (hR : Hid (∀ a' w', Fr 28 [(0, .pointer (some ⟨s, 0, none⟩)), (2, v2), (4, .pointer (some ⟨V, 0, none⟩)), (6, v6), (7, .pointer (some ⟨T, 0, none⟩)), (8, v8)] a' → Blk w' V 43 (ec (Gcm.pr (n ^^^ Gcm.en l) h 128)) → Keep [V] w2 w' → R a' w')) :
    Code.wp Try.prog hfoll_reg4 (OutN R) a w2 := by
  have LV : ∀ W, Keep [] w2 W → Blk W V 43 (ec n) := fun W h => hBV.out.keep h (by simp)
  have LT : ∀ W, Keep [] w2 W → Blk W T 23 D := fun W h => hBT.out.keep h (by simp)
  have LS : ∀ W, Keep [] w2 W → SB W s p h := fun W hh => hBS.out.keep hh (by simp)
  have CE := fun w => el_of l hl w
  rw [arr_agg, ← hDl.out] at CE
  have CP := fun w => el_plus n (Gcm.en l) hn (Gcm.en_lt l) w
  have hx : n ^^^ Gcm.en l < 2 ^ 128 := Nat.xor_lt_two_pow hn (Gcm.en_lt l)
  have CT := fun w => el_times (n ^^^ Gcm.en l) h hx hh w
  clear hx hn hh hl
  obtain ⟨f, ⟨f0, f2, f4, f6, f7, f8, -⟩, rfl⟩ := hF.open28
  simp only [f0, f2, f4, f6, f7, f8]
  clear f0 f2 f4 f6 f7 f8 hF
  conv => arg 2; whnf
  refine wp_region_any (by kernel_rfl) ?_
  change wpAny _ _ _ _ _ _ _ (World.drew _)
  obtain ⟨W0, hW0⟩ : ∃ W0, W0 = w2.drew := ⟨_, rfl⟩
  rw [← hW0]
  have hk0 : Keep [] w2 W0 := by rw [hW0]; exact (Keep.refl [] w2).drew
  clear hW0
  go_simp
  refine wpAny_take (i := 4) (v := ?_) rfl (by kernel_rfl) (by kernel_rfl) (by kernel_rfl) (fun _ _ _ h => h) (Or.inl ⟨by rfl, ?_⟩) ?_
  rotate_left
  · intro y; go_simp; try (with_reducible rfl)
  rotate_left
  go_simp
  refine wpAny_take (i := 5) (v := ?_) rfl (by kernel_rfl) (by kernel_rfl) (by kernel_rfl) (fun _ _ _ h => h) (Or.inl ⟨by rfl, ?_⟩) ?_
  rotate_left
  · intro y; go_simp; try (with_reducible rfl)
  rotate_left
  go_simp
  refine wpAny_take (i := 6) (v := ?_) rfl (by kernel_rfl) (by kernel_rfl) (by kernel_rfl) (fun _ _ _ h => h) (Or.inl ⟨by rfl, ?_⟩) ?_
  rotate_left
  · intro y; go_simp; try (with_reducible rfl)
  rotate_left
  go_simp
  refine wpAny_ready (rs := [0, 1, 7]) (by kernel_rfl) (by simp) ?_
  refine AllReady.cons rfl (fun K hK => ?_) ?_
  ·
    apply step_wp
    · rfl
    refine ow_loadD _ _ rfl V rfl _ Try.underlying43 rfl _ _ (LV _ hk0) elSz ?_
    apply hK
    clear hK K
    go_simp
    refine wpAny_ready (rs := [1, 7]) (by kernel_rfl) (by simp) ?_
    refine AllReady.cons rfl (fun K hK => ?_) ?_
    ·
      apply step_wp
      · rfl
      refine ow_load _ _ rfl T rfl 16 5 Try.underlying23 _ D (LT _ hk0) (by rw [hD.out]; exact blkCells) ?_
      apply hK
      clear hK K
      go_simp
      refine wpAny_ready (rs := [2, 7]) (by kernel_rfl) (by simp) ?_
      refine AllReady.cons rfl (fun K hK => ?_) ?_
      ·
        apply step_wp
        · rfl
        refine ow_call _ _ _ (by kernel_rfl) (CE _) ?_
        rintro e W2 ⟨rfl, hs2⟩
        refine ⟨_, rfl, ?_⟩
        have hk2 : Keep [] w2 W2 := hk0.trans0 hs2
        clear hs2
        apply hK
        clear hK K
        go_simp
        refine wpAny_ready (rs := [3, 7]) (by kernel_rfl) (by simp) ?_
        refine AllReady.cons rfl (fun K hK => ?_) ?_
        ·
          apply step_wp
          · rfl
          refine ow_call _ _ _ (by kernel_rfl) (CP _) ?_
          rintro e W3 ⟨rfl, hs3⟩
          refine ⟨_, rfl, ?_⟩
          have hk3 : Keep [] w2 W3 := hk2.trans0 hs3
          clear hs3
          apply hK
          clear hK K
          go_simp
          refine wpAny_ready (rs := [7]) (by kernel_rfl) (by simp) ?_
          refine AllReady.cons rfl (fun K hK => ?_) ?_
          ·
            apply step_wp
            · rfl
            refine ow_load_midD _ _ rfl s [Value.pointer (some ⟨p, 0, none⟩)] (ec h).toList [] 1 rfl rfl _ Try.underlying43 rfl elSz _ (LS _ hk3) ?_
            apply hK
            clear hK K
            go_simp
            refine wpAny_ready (rs := [8]) (by kernel_rfl) (by simp) ?_
            refine AllReady.cons rfl (fun K hK => ?_) ?_
            ·
              apply step_wp
              · rfl
              refine ow_call _ _ _ (by kernel_rfl) (CT _) ?_
              rintro e W8 ⟨rfl, hs8⟩
              refine ⟨_, rfl, ?_⟩
              have hk8 : Keep [] w2 W8 := hk3.trans0 hs8
              clear hs8
              apply hK
              clear hK K
              go_simp
              refine wpAny_ready (rs := [9]) (by kernel_rfl) (by simp) ?_
              refine AllReady.cons rfl (fun K hK => ?_) ?_
              ·
                apply step_wp
                · rfl
                refine ow_store _ _ _ rfl V (ec (Gcm.pr (n ^^^ Gcm.en l) h 128)) rfl rfl _ _ (LV _ hk8) elSz rfl (elOne _ _) ?_
                intro WF hbF hsF
                have hkF : Keep [V] w2 WF := hk8.more0.trans hsF
                clear hsF
                apply hK
                clear hK K
                go_simp
                refine wpAny_done (by kernel_rfl) ?_ _
                exact hR.out _ _ ⟨rfl, rfl, by repeat (first | exact trivial | refine ⟨rfl, ?_⟩)⟩ hbF hkF
              exact AllReady.nil
            exact AllReady.nil
          exact AllReady.nil
        refine AllReady.cons rfl (fun K hK => ?_) ?_
        ·
          apply step_wp
          · rfl
          refine ow_load_midD _ _ rfl s [Value.pointer (some ⟨p, 0, none⟩)] (ec h).toList [] 1 rfl rfl _ Try.underlying43 rfl elSz _ (LS _ hk2) ?_
          apply hK
          clear hK K
          go_simp
          refine wpAny_ready (rs := [3]) (by kernel_rfl) (by simp) ?_
          refine AllReady.cons rfl (fun K hK => ?_) ?_
          ·
            apply step_wp
            · rfl
            refine ow_call _ _ _ (by kernel_rfl) (CP _) ?_
            rintro e W3 ⟨rfl, hs3⟩
            refine ⟨_, rfl, ?_⟩
            have hk3 : Keep [] w2 W3 := hk2.trans0 hs3
            clear hs3
            apply hK
            clear hK K
            go_simp
            refine wpAny_ready (rs := [8]) (by kernel_rfl) (by simp) ?_
            refine AllReady.cons rfl (fun K hK => ?_) ?_
            ·
              apply step_wp
              · rfl
              refine ow_call _ _ _ (by kernel_rfl) (CT _) ?_
              rintro e W8 ⟨rfl, hs8⟩
              refine ⟨_, rfl, ?_⟩
              have hk8 : Keep [] w2 W8 := hk3.trans0 hs8
              clear hs8
              apply hK
              clear hK K
              go_simp
              refine wpAny_ready (rs := [9]) (by kernel_rfl) (by simp) ?_
              refine AllReady.cons rfl (fun K hK => ?_) ?_
              ·
                apply step_wp
                · rfl
                refine ow_store _ _ _ rfl V (ec (Gcm.pr (n ^^^ Gcm.en l) h 128)) rfl rfl _ _ (LV _ hk8) elSz rfl (elOne _ _) ?_
                intro WF hbF hsF
                have hkF : Keep [V] w2 WF := hk8.more0.trans hsF
                clear hsF
                apply hK
                clear hK K
                go_simp
                refine wpAny_done (by kernel_rfl) ?_ _
                exact hR.out _ _ ⟨rfl, rfl, by repeat (first | exact trivial | refine ⟨rfl, ?_⟩)⟩ hbF hkF
              exact AllReady.nil
            exact AllReady.nil
          exact AllReady.nil
        exact AllReady.nil
      refine AllReady.cons rfl (fun K hK => ?_) ?_
      ·
        apply step_wp
        · rfl
        refine ow_load_midD _ _ rfl s [Value.pointer (some ⟨p, 0, none⟩)] (ec h).toList [] 1 rfl rfl _ Try.underlying43 rfl elSz _ (LS _ hk0) ?_
        apply hK
        clear hK K
        go_simp
        refine wpAny_ready (rs := [2]) (by kernel_rfl) (by simp) ?_
        refine AllReady.cons rfl (fun K hK => ?_) ?_
        ·
          apply step_wp
          · rfl
          refine ow_call _ _ _ (by kernel_rfl) (CE _) ?_
          rintro e W2 ⟨rfl, hs2⟩
          refine ⟨_, rfl, ?_⟩
          have hk2 : Keep [] w2 W2 := hk0.trans0 hs2
          clear hs2
          apply hK
          clear hK K
          go_simp
          refine wpAny_ready (rs := [3]) (by kernel_rfl) (by simp) ?_
          refine AllReady.cons rfl (fun K hK => ?_) ?_
          ·
            apply step_wp
            · rfl
            refine ow_call _ _ _ (by kernel_rfl) (CP _) ?_
            rintro e W3 ⟨rfl, hs3⟩
            refine ⟨_, rfl, ?_⟩
            have hk3 : Keep [] w2 W3 := hk2.trans0 hs3
            clear hs3
            apply hK
            clear hK K
            go_simp
            refine wpAny_ready (rs := [8]) (by kernel_rfl) (by simp) ?_
            refine AllReady.cons rfl (fun K hK => ?_) ?_
            ·
              apply step_wp
              · rfl
              refine ow_call _ _ _ (by kernel_rfl) (CT _) ?_
              rintro e W8 ⟨rfl, hs8⟩
              refine ⟨_, rfl, ?_⟩
              have hk8 : Keep [] w2 W8 := hk3.trans0 hs8
              clear hs8
              apply hK
              clear hK K
              go_simp
              refine wpAny_ready (rs := [9]) (by kernel_rfl) (by simp) ?_
              refine AllReady.cons rfl (fun K hK => ?_) ?_
              ·
                apply step_wp
                · rfl
                refine ow_store _ _ _ rfl V (ec (Gcm.pr (n ^^^ Gcm.en l) h 128)) rfl rfl _ _ (LV _ hk8) elSz rfl (elOne _ _) ?_
                intro WF hbF hsF
                have hkF : Keep [V] w2 WF := hk8.more0.trans hsF
                clear hsF
                apply hK
                clear hK K
                go_simp
                refine wpAny_done (by kernel_rfl) ?_ _
                exact hR.out _ _ ⟨rfl, rfl, by repeat (first | exact trivial | refine ⟨rfl, ?_⟩)⟩ hbF hkF
              exact AllReady.nil
            exact AllReady.nil
          exact AllReady.nil
        exact AllReady.nil
      exact AllReady.nil
    refine AllReady.cons rfl (fun K hK => ?_) ?_
    ·
      apply step_wp
      · rfl
      refine ow_load_midD _ _ rfl s [Value.pointer (some ⟨p, 0, none⟩)] (ec h).toList [] 1 rfl rfl _ Try.underlying43 rfl elSz _ (LS _ hk0) ?_
      apply hK
      clear hK K
      go_simp
      refine wpAny_ready (rs := [1]) (by kernel_rfl) (by simp) ?_
      refine AllReady.cons rfl (fun K hK => ?_) ?_
      ·
        apply step_wp
        · rfl
        refine ow_load _ _ rfl T rfl 16 5 Try.underlying23 _ D (LT _ hk0) (by rw [hD.out]; exact blkCells) ?_
        apply hK
        clear hK K
        go_simp
        refine wpAny_ready (rs := [2]) (by kernel_rfl) (by simp) ?_
        refine AllReady.cons rfl (fun K hK => ?_) ?_
        ·
          apply step_wp
          · rfl
          refine ow_call _ _ _ (by kernel_rfl) (CE _) ?_
          rintro e W2 ⟨rfl, hs2⟩
          refine ⟨_, rfl, ?_⟩
          have hk2 : Keep [] w2 W2 := hk0.trans0 hs2
          clear hs2
          apply hK
          clear hK K
          go_simp
          refine wpAny_ready (rs := [3]) (by kernel_rfl) (by simp) ?_
          refine AllReady.cons rfl (fun K hK => ?_) ?_
          ·
            apply step_wp
            · rfl
            refine ow_call _ _ _ (by kernel_rfl) (CP _) ?_
            rintro e W3 ⟨rfl, hs3⟩
            refine ⟨_, rfl, ?_⟩
            have hk3 : Keep [] w2 W3 := hk2.trans0 hs3
            clear hs3
            apply hK
            clear hK K
            go_simp
            refine wpAny_ready (rs := [8]) (by kernel_rfl) (by simp) ?_
            refine AllReady.cons rfl (fun K hK => ?_) ?_
            ·
              apply step_wp
              · rfl
              refine ow_call _ _ _ (by kernel_rfl) (CT _) ?_
              rintro e W8 ⟨rfl, hs8⟩
              refine ⟨_, rfl, ?_⟩
              have hk8 : Keep [] w2 W8 := hk3.trans0 hs8
              clear hs8
              apply hK
              clear hK K
              go_simp
              refine wpAny_ready (rs := [9]) (by kernel_rfl) (by simp) ?_
              refine AllReady.cons rfl (fun K hK => ?_) ?_
              ·
                apply step_wp
                · rfl
                refine ow_store _ _ _ rfl V (ec (Gcm.pr (n ^^^ Gcm.en l) h 128)) rfl rfl _ _ (LV _ hk8) elSz rfl (elOne _ _) ?_
                intro WF hbF hsF
                have hkF : Keep [V] w2 WF := hk8.more0.trans hsF
                clear hsF
                apply hK
                clear hK K
                go_simp
                refine wpAny_done (by kernel_rfl) ?_ _
                exact hR.out _ _ ⟨rfl, rfl, by repeat (first | exact trivial | refine ⟨rfl, ?_⟩)⟩ hbF hkF
              exact AllReady.nil
            exact AllReady.nil
          exact AllReady.nil
        exact AllReady.nil
      exact AllReady.nil
    exact AllReady.nil
  refine AllReady.cons rfl (fun K hK => ?_) ?_
  ·
    apply step_wp
    · rfl
    refine ow_load _ _ rfl T rfl 16 5 Try.underlying23 _ D (LT _ hk0) (by rw [hD.out]; exact blkCells) ?_
    apply hK
    clear hK K
    go_simp
    refine wpAny_ready (rs := [0, 2, 7]) (by kernel_rfl) (by simp) ?_
    refine AllReady.cons rfl (fun K hK => ?_) ?_
    ·
      apply step_wp
      · rfl
      refine ow_loadD _ _ rfl V rfl _ Try.underlying43 rfl _ _ (LV _ hk0) elSz ?_
      apply hK
      clear hK K
      go_simp
      refine wpAny_ready (rs := [2, 7]) (by kernel_rfl) (by simp) ?_
      refine AllReady.cons rfl (fun K hK => ?_) ?_
      ·
        apply step_wp
        · rfl
        refine ow_call _ _ _ (by kernel_rfl) (CE _) ?_
        rintro e W2 ⟨rfl, hs2⟩
        refine ⟨_, rfl, ?_⟩
        have hk2 : Keep [] w2 W2 := hk0.trans0 hs2
        clear hs2
        apply hK
        clear hK K
        go_simp
        refine wpAny_ready (rs := [3, 7]) (by kernel_rfl) (by simp) ?_
        refine AllReady.cons rfl (fun K hK => ?_) ?_
        ·
          apply step_wp
          · rfl
          refine ow_call _ _ _ (by kernel_rfl) (CP _) ?_
          rintro e W3 ⟨rfl, hs3⟩
          refine ⟨_, rfl, ?_⟩
          have hk3 : Keep [] w2 W3 := hk2.trans0 hs3
          clear hs3
          apply hK
          clear hK K
          go_simp
          refine wpAny_ready (rs := [7]) (by kernel_rfl) (by simp) ?_
          refine AllReady.cons rfl (fun K hK => ?_) ?_
          ·
            apply step_wp
            · rfl
            refine ow_load_midD _ _ rfl s [Value.pointer (some ⟨p, 0, none⟩)] (ec h).toList [] 1 rfl rfl _ Try.underlying43 rfl elSz _ (LS _ hk3) ?_
            apply hK
            clear hK K
            go_simp
            refine wpAny_ready (rs := [8]) (by kernel_rfl) (by simp) ?_
            refine AllReady.cons rfl (fun K hK => ?_) ?_
            ·
              apply step_wp
              · rfl
              refine ow_call _ _ _ (by kernel_rfl) (CT _) ?_
              rintro e W8 ⟨rfl, hs8⟩
              refine ⟨_, rfl, ?_⟩
              have hk8 : Keep [] w2 W8 := hk3.trans0 hs8
              clear hs8
              apply hK
              clear hK K
              go_simp
              refine wpAny_ready (rs := [9]) (by kernel_rfl) (by simp) ?_
              refine AllReady.cons rfl (fun K hK => ?_) ?_
              ·
                apply step_wp
                · rfl
                refine ow_store _ _ _ rfl V (ec (Gcm.pr (n ^^^ Gcm.en l) h 128)) rfl rfl _ _ (LV _ hk8) elSz rfl (elOne _ _) ?_
                intro WF hbF hsF
                have hkF : Keep [V] w2 WF := hk8.more0.trans hsF
                clear hsF
                apply hK
                clear hK K
                go_simp
                refine wpAny_done (by kernel_rfl) ?_ _
                exact hR.out _ _ ⟨rfl, rfl, by repeat (first | exact trivial | refine ⟨rfl, ?_⟩)⟩ hbF hkF
              exact AllReady.nil
            exact AllReady.nil
          exact AllReady.nil
        refine AllReady.cons rfl (fun K hK => ?_) ?_
        ·
          apply step_wp
          · rfl
          refine ow_load_midD _ _ rfl s [Value.pointer (some ⟨p, 0, none⟩)] (ec h).toList [] 1 rfl rfl _ Try.underlying43 rfl elSz _ (LS _ hk2) ?_
          apply hK
          clear hK K
          go_simp
          refine wpAny_ready (rs := [3]) (by kernel_rfl) (by simp) ?_
          refine AllReady.cons rfl (fun K hK => ?_) ?_
          ·
            apply step_wp
            · rfl
            refine ow_call _ _ _ (by kernel_rfl) (CP _) ?_
            rintro e W3 ⟨rfl, hs3⟩
            refine ⟨_, rfl, ?_⟩
            have hk3 : Keep [] w2 W3 := hk2.trans0 hs3
            clear hs3
            apply hK
            clear hK K
            go_simp
            refine wpAny_ready (rs := [8]) (by kernel_rfl) (by simp) ?_
            refine AllReady.cons rfl (fun K hK => ?_) ?_
            ·
              apply step_wp
              · rfl
              refine ow_call _ _ _ (by kernel_rfl) (CT _) ?_
              rintro e W8 ⟨rfl, hs8⟩
              refine ⟨_, rfl, ?_⟩
              have hk8 : Keep [] w2 W8 := hk3.trans0 hs8
              clear hs8
              apply hK
              clear hK K
              go_simp
              refine wpAny_ready (rs := [9]) (by kernel_rfl) (by simp) ?_
              refine AllReady.cons rfl (fun K hK => ?_) ?_
              ·
                apply step_wp
                · rfl
                refine ow_store _ _ _ rfl V (ec (Gcm.pr (n ^^^ Gcm.en l) h 128)) rfl rfl _ _ (LV _ hk8) elSz rfl (elOne _ _) ?_
                intro WF hbF hsF
                have hkF : Keep [V] w2 WF := hk8.more0.trans hsF
                clear hsF
                apply hK
                clear hK K
                go_simp
                refine wpAny_done (by kernel_rfl) ?_ _
                exact hR.out _ _ ⟨rfl, rfl, by repeat (first | exact trivial | refine ⟨rfl, ?_⟩)⟩ hbF hkF
              exact AllReady.nil
            exact AllReady.nil
          exact AllReady.nil
        exact AllReady.nil
      refine AllReady.cons rfl (fun K hK => ?_) ?_
      ·
        apply step_wp
        · rfl
        refine ow_load_midD _ _ rfl s [Value.pointer (some ⟨p, 0, none⟩)] (ec h).toList [] 1 rfl rfl _ Try.underlying43 rfl elSz _ (LS _ hk0) ?_
        apply hK
        clear hK K
        go_simp
        refine wpAny_ready (rs := [2]) (by kernel_rfl) (by simp) ?_
        refine AllReady.cons rfl (fun K hK => ?_) ?_
        ·
          apply step_wp
          · rfl
          refine ow_call _ _ _ (by kernel_rfl) (CE _) ?_
          rintro e W2 ⟨rfl, hs2⟩
          refine ⟨_, rfl, ?_⟩
          have hk2 : Keep [] w2 W2 := hk0.trans0 hs2
          clear hs2
          apply hK
          clear hK K
          go_simp
          refine wpAny_ready (rs := [3]) (by kernel_rfl) (by simp) ?_
          refine AllReady.cons rfl (fun K hK => ?_) ?_
          ·
            apply step_wp
            · rfl
            refine ow_call _ _ _ (by kernel_rfl) (CP _) ?_
            rintro e W3 ⟨rfl, hs3⟩
            refine ⟨_, rfl, ?_⟩
            have hk3 : Keep [] w2 W3 := hk2.trans0 hs3
            clear hs3
            apply hK
            clear hK K
            go_simp
            refine wpAny_ready (rs := [8]) (by kernel_rfl) (by simp) ?_
            refine AllReady.cons rfl (fun K hK => ?_) ?_
            ·
              apply step_wp
              · rfl
              refine ow_call _ _ _ (by kernel_rfl) (CT _) ?_
              rintro e W8 ⟨rfl, hs8⟩
              refine ⟨_, rfl, ?_⟩
              have hk8 : Keep [] w2 W8 := hk3.trans0 hs8
              clear hs8
              apply hK
              clear hK K
              go_simp
              refine wpAny_ready (rs := [9]) (by kernel_rfl) (by simp) ?_
              refine AllReady.cons rfl (fun K hK => ?_) ?_
              ·
                apply step_wp
                · rfl
                refine ow_store _ _ _ rfl V (ec (Gcm.pr (n ^^^ Gcm.en l) h 128)) rfl rfl _ _ (LV _ hk8) elSz rfl (elOne _ _) ?_
                intro WF hbF hsF
                have hkF : Keep [V] w2 WF := hk8.more0.trans hsF
                clear hsF
                apply hK
                clear hK K
                go_simp
                refine wpAny_done (by kernel_rfl) ?_ _
                exact hR.out _ _ ⟨rfl, rfl, by repeat (first | exact trivial | refine ⟨rfl, ?_⟩)⟩ hbF hkF
              exact AllReady.nil
            exact AllReady.nil
          exact AllReady.nil
        exact AllReady.nil
      exact AllReady.nil
    refine AllReady.cons rfl (fun K hK => ?_) ?_
    ·
      apply step_wp
      · rfl
      refine ow_call _ _ _ (by kernel_rfl) (CE _) ?_
      rintro e W2 ⟨rfl, hs2⟩
      refine ⟨_, rfl, ?_⟩
      have hk2 : Keep [] w2 W2 := hk0.trans0 hs2
      clear hs2
      apply hK
      clear hK K
      go_simp
      refine wpAny_ready (rs := [0, 7]) (by kernel_rfl) (by simp) ?_
      refine AllReady.cons rfl (fun K hK => ?_) ?_
      ·
        apply step_wp
        · rfl
        refine ow_loadD _ _ rfl V rfl _ Try.underlying43 rfl _ _ (LV _ hk2) elSz ?_
        apply hK
        clear hK K
        go_simp
        refine wpAny_ready (rs := [3, 7]) (by kernel_rfl) (by simp) ?_
        refine AllReady.cons rfl (fun K hK => ?_) ?_
        ·
          apply step_wp
          · rfl
          refine ow_call _ _ _ (by kernel_rfl) (CP _) ?_
          rintro e W3 ⟨rfl, hs3⟩
          refine ⟨_, rfl, ?_⟩
          have hk3 : Keep [] w2 W3 := hk2.trans0 hs3
          clear hs3
          apply hK
          clear hK K
          go_simp
          refine wpAny_ready (rs := [7]) (by kernel_rfl) (by simp) ?_
          refine AllReady.cons rfl (fun K hK => ?_) ?_
          ·
            apply step_wp
            · rfl
            refine ow_load_midD _ _ rfl s [Value.pointer (some ⟨p, 0, none⟩)] (ec h).toList [] 1 rfl rfl _ Try.underlying43 rfl elSz _ (LS _ hk3) ?_
            apply hK
            clear hK K
            go_simp
            refine wpAny_ready (rs := [8]) (by kernel_rfl) (by simp) ?_
            refine AllReady.cons rfl (fun K hK => ?_) ?_
            ·
              apply step_wp
              · rfl
              refine ow_call _ _ _ (by kernel_rfl) (CT _) ?_
              rintro e W8 ⟨rfl, hs8⟩
              refine ⟨_, rfl, ?_⟩
              have hk8 : Keep [] w2 W8 := hk3.trans0 hs8
              clear hs8
              apply hK
              clear hK K
              go_simp
              refine wpAny_ready (rs := [9]) (by kernel_rfl) (by simp) ?_
              refine AllReady.cons rfl (fun K hK => ?_) ?_
              ·
                apply step_wp
                · rfl
                refine ow_store _ _ _ rfl V (ec (Gcm.pr (n ^^^ Gcm.en l) h 128)) rfl rfl _ _ (LV _ hk8) elSz rfl (elOne _ _) ?_
                intro WF hbF hsF
                have hkF : Keep [V] w2 WF := hk8.more0.trans hsF
                clear hsF
                apply hK
                clear hK K
                go_simp
                refine wpAny_done (by kernel_rfl) ?_ _
                exact hR.out _ _ ⟨rfl, rfl, by repeat (first | exact trivial | refine ⟨rfl, ?_⟩)⟩ hbF hkF
              exact AllReady.nil
            exact AllReady.nil
          exact AllReady.nil
        refine AllReady.cons rfl (fun K hK => ?_) ?_
        ·
          apply step_wp
          · rfl
          refine ow_load_midD _ _ rfl s [Value.pointer (some ⟨p, 0, none⟩)] (ec h).toList [] 1 rfl rfl _ Try.underlying43 rfl elSz _ (LS _ hk2) ?_
          apply hK
          clear hK K
          go_simp
          refine wpAny_ready (rs := [3]) (by kernel_rfl) (by simp) ?_
          refine AllReady.cons rfl (fun K hK => ?_) ?_
          ·
            apply step_wp
            · rfl
            refine ow_call _ _ _ (by kernel_rfl) (CP _) ?_
            rintro e W3 ⟨rfl, hs3⟩
            refine ⟨_, rfl, ?_⟩
            have hk3 : Keep [] w2 W3 := hk2.trans0 hs3
            clear hs3
            apply hK
            clear hK K
            go_simp
            refine wpAny_ready (rs := [8]) (by kernel_rfl) (by simp) ?_
            refine AllReady.cons rfl (fun K hK => ?_) ?_
            ·
              apply step_wp
              · rfl
              refine ow_call _ _ _ (by kernel_rfl) (CT _) ?_
              rintro e W8 ⟨rfl, hs8⟩
              refine ⟨_, rfl, ?_⟩
              have hk8 : Keep [] w2 W8 := hk3.trans0 hs8
              clear hs8
              apply hK
              clear hK K
              go_simp
              refine wpAny_ready (rs := [9]) (by kernel_rfl) (by simp) ?_
              refine AllReady.cons rfl (fun K hK => ?_) ?_
              ·
                apply step_wp
                · rfl
                refine ow_store _ _ _ rfl V (ec (Gcm.pr (n ^^^ Gcm.en l) h 128)) rfl rfl _ _ (LV _ hk8) elSz rfl (elOne _ _) ?_
                intro WF hbF hsF
                have hkF : Keep [V] w2 WF := hk8.more0.trans hsF
                clear hsF
                apply hK
                clear hK K
                go_simp
                refine wpAny_done (by kernel_rfl) ?_ _
                exact hR.out _ _ ⟨rfl, rfl, by repeat (first | exact trivial | refine ⟨rfl, ?_⟩)⟩ hbF hkF
              exact AllReady.nil
            exact AllReady.nil
          exact AllReady.nil
        exact AllReady.nil
      refine AllReady.cons rfl (fun K hK => ?_) ?_
      ·
        apply step_wp
        · rfl
        refine ow_load_midD _ _ rfl s [Value.pointer (some ⟨p, 0, none⟩)] (ec h).toList [] 1 rfl rfl _ Try.underlying43 rfl elSz _ (LS _ hk2) ?_
        apply hK
        clear hK K
        go_simp
        refine wpAny_ready (rs := [0]) (by kernel_rfl) (by simp) ?_
        refine AllReady.cons rfl (fun K hK => ?_) ?_
        ·
          apply step_wp
          · rfl
          refine ow_loadD _ _ rfl V rfl _ Try.underlying43 rfl _ _ (LV _ hk2) elSz ?_
          apply hK
          clear hK K
          go_simp
          refine wpAny_ready (rs := [3]) (by kernel_rfl) (by simp) ?_
          refine AllReady.cons rfl (fun K hK => ?_) ?_
          ·
            apply step_wp
            · rfl
            refine ow_call _ _ _ (by kernel_rfl) (CP _) ?_
            rintro e W3 ⟨rfl, hs3⟩
            refine ⟨_, rfl, ?_⟩
            have hk3 : Keep [] w2 W3 := hk2.trans0 hs3
            clear hs3
            apply hK
            clear hK K
            go_simp
            refine wpAny_ready (rs := [8]) (by kernel_rfl) (by simp) ?_
            refine AllReady.cons rfl (fun K hK => ?_) ?_
            ·
              apply step_wp
              · rfl
              refine ow_call _ _ _ (by kernel_rfl) (CT _) ?_
              rintro e W8 ⟨rfl, hs8⟩
              refine ⟨_, rfl, ?_⟩
              have hk8 : Keep [] w2 W8 := hk3.trans0 hs8
              clear hs8
              apply hK
              clear hK K
              go_simp
              refine wpAny_ready (rs := [9]) (by kernel_rfl) (by simp) ?_
              refine AllReady.cons rfl (fun K hK => ?_) ?_
              ·
                apply step_wp
                · rfl
                refine ow_store _ _ _ rfl V (ec (Gcm.pr (n ^^^ Gcm.en l) h 128)) rfl rfl _ _ (LV _ hk8) elSz rfl (elOne _ _) ?_
                intro WF hbF hsF
                have hkF : Keep [V] w2 WF := hk8.more0.trans hsF
                clear hsF
                apply hK
                clear hK K
                go_simp
                refine wpAny_done (by kernel_rfl) ?_ _
                exact hR.out _ _ ⟨rfl, rfl, by repeat (first | exact trivial | refine ⟨rfl, ?_⟩)⟩ hbF hkF
              exact AllReady.nil
            exact AllReady.nil
          exact AllReady.nil
        exact AllReady.nil
      exact AllReady.nil
    refine AllReady.cons rfl (fun K hK => ?_) ?_
    ·
      apply step_wp
      · rfl
      refine ow_load_midD _ _ rfl s [Value.pointer (some ⟨p, 0, none⟩)] (ec h).toList [] 1 rfl rfl _ Try.underlying43 rfl elSz _ (LS _ hk0) ?_
      apply hK
      clear hK K
      go_simp
      refine wpAny_ready (rs := [0, 2]) (by kernel_rfl) (by simp) ?_
      refine AllReady.cons rfl (fun K hK => ?_) ?_
      ·
        apply step_wp
        · rfl
        refine ow_loadD _ _ rfl V rfl _ Try.underlying43 rfl _ _ (LV _ hk0) elSz ?_
        apply hK
        clear hK K
        go_simp
        refine wpAny_ready (rs := [2]) (by kernel_rfl) (by simp) ?_
        refine AllReady.cons rfl (fun K hK => ?_) ?_
        ·
          apply step_wp
          · rfl
          refine ow_call _ _ _ (by kernel_rfl) (CE _) ?_
          rintro e W2 ⟨rfl, hs2⟩
          refine ⟨_, rfl, ?_⟩
          have hk2 : Keep [] w2 W2 := hk0.trans0 hs2
          clear hs2
          apply hK
          clear hK K
          go_simp
          refine wpAny_ready (rs := [3]) (by kernel_rfl) (by simp) ?_
          refine AllReady.cons rfl (fun K hK => ?_) ?_
          ·
            apply step_wp
            · rfl
            refine ow_call _ _ _ (by kernel_rfl) (CP _) ?_
            rintro e W3 ⟨rfl, hs3⟩
            refine ⟨_, rfl, ?_⟩
            have hk3 : Keep [] w2 W3 := hk2.trans0 hs3
            clear hs3
            apply hK
            clear hK K
            go_simp
            refine wpAny_ready (rs := [8]) (by kernel_rfl) (by simp) ?_
            refine AllReady.cons rfl (fun K hK => ?_) ?_
            ·
              apply step_wp
              · rfl
              refine ow_call _ _ _ (by kernel_rfl) (CT _) ?_
              rintro e W8 ⟨rfl, hs8⟩
              refine ⟨_, rfl, ?_⟩
              have hk8 : Keep [] w2 W8 := hk3.trans0 hs8
              clear hs8
              apply hK
              clear hK K
              go_simp
              refine wpAny_ready (rs := [9]) (by kernel_rfl) (by simp) ?_
              refine AllReady.cons rfl (fun K hK => ?_) ?_
              ·
                apply step_wp
                · rfl
                refine ow_store _ _ _ rfl V (ec (Gcm.pr (n ^^^ Gcm.en l) h 128)) rfl rfl _ _ (LV _ hk8) elSz rfl (elOne _ _) ?_
                intro WF hbF hsF
                have hkF : Keep [V] w2 WF := hk8.more0.trans hsF
                clear hsF
                apply hK
                clear hK K
                go_simp
                refine wpAny_done (by kernel_rfl) ?_ _
                exact hR.out _ _ ⟨rfl, rfl, by repeat (first | exact trivial | refine ⟨rfl, ?_⟩)⟩ hbF hkF
              exact AllReady.nil
            exact AllReady.nil
          exact AllReady.nil
        exact AllReady.nil
      refine AllReady.cons rfl (fun K hK => ?_) ?_
      ·
        apply step_wp
        · rfl
        refine ow_call _ _ _ (by kernel_rfl) (CE _) ?_
        rintro e W2 ⟨rfl, hs2⟩
        refine ⟨_, rfl, ?_⟩
        have hk2 : Keep [] w2 W2 := hk0.trans0 hs2
        clear hs2
        apply hK
        clear hK K
        go_simp
        refine wpAny_ready (rs := [0]) (by kernel_rfl) (by simp) ?_
        refine AllReady.cons rfl (fun K hK => ?_) ?_
        ·
          apply step_wp
          · rfl
          refine ow_loadD _ _ rfl V rfl _ Try.underlying43 rfl _ _ (LV _ hk2) elSz ?_
          apply hK
          clear hK K
          go_simp
          refine wpAny_ready (rs := [3]) (by kernel_rfl) (by simp) ?_
          refine AllReady.cons rfl (fun K hK => ?_) ?_
          ·
            apply step_wp
            · rfl
            refine ow_call _ _ _ (by kernel_rfl) (CP _) ?_
            rintro e W3 ⟨rfl, hs3⟩
            refine ⟨_, rfl, ?_⟩
            have hk3 : Keep [] w2 W3 := hk2.trans0 hs3
            clear hs3
            apply hK
            clear hK K
            go_simp
            refine wpAny_ready (rs := [8]) (by kernel_rfl) (by simp) ?_
            refine AllReady.cons rfl (fun K hK => ?_) ?_
            ·
              apply step_wp
              · rfl
              refine ow_call _ _ _ (by kernel_rfl) (CT _) ?_
              rintro e W8 ⟨rfl, hs8⟩
              refine ⟨_, rfl, ?_⟩
              have hk8 : Keep [] w2 W8 := hk3.trans0 hs8
              clear hs8
              apply hK
              clear hK K
              go_simp
              refine wpAny_ready (rs := [9]) (by kernel_rfl) (by simp) ?_
              refine AllReady.cons rfl (fun K hK => ?_) ?_
              ·
                apply step_wp
                · rfl
                refine ow_store _ _ _ rfl V (ec (Gcm.pr (n ^^^ Gcm.en l) h 128)) rfl rfl _ _ (LV _ hk8) elSz rfl (elOne _ _) ?_
                intro WF hbF hsF
                have hkF : Keep [V] w2 WF := hk8.more0.trans hsF
                clear hsF
                apply hK
                clear hK K
                go_simp
                refine wpAny_done (by kernel_rfl) ?_ _
                exact hR.out _ _ ⟨rfl, rfl, by repeat (first | exact trivial | refine ⟨rfl, ?_⟩)⟩ hbF hkF
              exact AllReady.nil
            exact AllReady.nil
          exact AllReady.nil
        exact AllReady.nil
      exact AllReady.nil
    exact AllReady.nil
  refine AllReady.cons rfl (fun K hK => ?_) ?_
  ·
    apply step_wp
    · rfl
    refine ow_load_midD _ _ rfl s [Value.pointer (some ⟨p, 0, none⟩)] (ec h).toList [] 1 rfl rfl _ Try.underlying43 rfl elSz _ (LS _ hk0) ?_
    apply hK
    clear hK K
    go_simp
    refine wpAny_ready (rs := [0, 1]) (by kernel_rfl) (by simp) ?_
    refine AllReady.cons rfl (fun K hK => ?_) ?_
    ·
      apply step_wp
      · rfl
      refine ow_loadD _ _ rfl V rfl _ Try.underlying43 rfl _ _ (LV _ hk0) elSz ?_
      apply hK
      clear hK K
      go_simp
      refine wpAny_ready (rs := [1]) (by kernel_rfl) (by simp) ?_
      refine AllReady.cons rfl (fun K hK => ?_) ?_
      ·
        apply step_wp
        · rfl
        refine ow_load _ _ rfl T rfl 16 5 Try.underlying23 _ D (LT _ hk0) (by rw [hD.out]; exact blkCells) ?_
        apply hK
        clear hK K
        go_simp
        refine wpAny_ready (rs := [2]) (by kernel_rfl) (by simp) ?_
        refine AllReady.cons rfl (fun K hK => ?_) ?_
        ·
          apply step_wp
          · rfl
          refine ow_call _ _ _ (by kernel_rfl) (CE _) ?_
          rintro e W2 ⟨rfl, hs2⟩
          refine ⟨_, rfl, ?_⟩
          have hk2 : Keep [] w2 W2 := hk0.trans0 hs2
          clear hs2
          apply hK
          clear hK K
          go_simp
          refine wpAny_ready (rs := [3]) (by kernel_rfl) (by simp) ?_
          refine AllReady.cons rfl (fun K hK => ?_) ?_
          ·
            apply step_wp
            · rfl
            refine ow_call _ _ _ (by kernel_rfl) (CP _) ?_
            rintro e W3 ⟨rfl, hs3⟩
            refine ⟨_, rfl, ?_⟩
            have hk3 : Keep [] w2 W3 := hk2.trans0 hs3
            clear hs3
            apply hK
            clear hK K
            go_simp
            refine wpAny_ready (rs := [8]) (by kernel_rfl) (by simp) ?_
            refine AllReady.cons rfl (fun K hK => ?_) ?_
            ·
              apply step_wp
              · rfl
              refine ow_call _ _ _ (by kernel_rfl) (CT _) ?_
              rintro e W8 ⟨rfl, hs8⟩
              refine ⟨_, rfl, ?_⟩
              have hk8 : Keep [] w2 W8 := hk3.trans0 hs8
              clear hs8
              apply hK
              clear hK K
              go_simp
              refine wpAny_ready (rs := [9]) (by kernel_rfl) (by simp) ?_
              refine AllReady.cons rfl (fun K hK => ?_) ?_
              ·
                apply step_wp
                · rfl
                refine ow_store _ _ _ rfl V (ec (Gcm.pr (n ^^^ Gcm.en l) h 128)) rfl rfl _ _ (LV _ hk8) elSz rfl (elOne _ _) ?_
                intro WF hbF hsF
                have hkF : Keep [V] w2 WF := hk8.more0.trans hsF
                clear hsF
                apply hK
                clear hK K
                go_simp
                refine wpAny_done (by kernel_rfl) ?_ _
                exact hR.out _ _ ⟨rfl, rfl, by repeat (first | exact trivial | refine ⟨rfl, ?_⟩)⟩ hbF hkF
              exact AllReady.nil
            exact AllReady.nil
          exact AllReady.nil
        exact AllReady.nil
      exact AllReady.nil
    refine AllReady.cons rfl (fun K hK => ?_) ?_
    ·
      apply step_wp
      · rfl
      refine ow_load _ _ rfl T rfl 16 5 Try.underlying23 _ D (LT _ hk0) (by rw [hD.out]; exact blkCells) ?_
      apply hK
      clear hK K
      go_simp
      refine wpAny_ready (rs := [0, 2]) (by kernel_rfl) (by simp) ?_
      refine AllReady.cons rfl (fun K hK => ?_) ?_
      ·
        apply step_wp
        · rfl
        refine ow_loadD _ _ rfl V rfl _ Try.underlying43 rfl _ _ (LV _ hk0) elSz ?_
        apply hK
        clear hK K
        go_simp
        refine wpAny_ready (rs := [2]) (by kernel_rfl) (by simp) ?_
        refine AllReady.cons rfl (fun K hK => ?_) ?_
        ·
          apply step_wp
          · rfl
          refine ow_call _ _ _ (by kernel_rfl) (CE _) ?_
          rintro e W2 ⟨rfl, hs2⟩
          refine ⟨_, rfl, ?_⟩
          have hk2 : Keep [] w2 W2 := hk0.trans0 hs2
          clear hs2
          apply hK
          clear hK K
          go_simp
          refine wpAny_ready (rs := [3]) (by kernel_rfl) (by simp) ?_
          refine AllReady.cons rfl (fun K hK => ?_) ?_
          ·
            apply step_wp
            · rfl
            refine ow_call _ _ _ (by kernel_rfl) (CP _) ?_
            rintro e W3 ⟨rfl, hs3⟩
            refine ⟨_, rfl, ?_⟩
            have hk3 : Keep [] w2 W3 := hk2.trans0 hs3
            clear hs3
            apply hK
            clear hK K
            go_simp
            refine wpAny_ready (rs := [8]) (by kernel_rfl) (by simp) ?_
            refine AllReady.cons rfl (fun K hK => ?_) ?_
            ·
              apply step_wp
              · rfl
              refine ow_call _ _ _ (by kernel_rfl) (CT _) ?_
              rintro e W8 ⟨rfl, hs8⟩
              refine ⟨_, rfl, ?_⟩
              have hk8 : Keep [] w2 W8 := hk3.trans0 hs8
              clear hs8
              apply hK
              clear hK K
              go_simp
              refine wpAny_ready (rs := [9]) (by kernel_rfl) (by simp) ?_
              refine AllReady.cons rfl (fun K hK => ?_) ?_
              ·
                apply step_wp
                · rfl
                refine ow_store _ _ _ rfl V (ec (Gcm.pr (n ^^^ Gcm.en l) h 128)) rfl rfl _ _ (LV _ hk8) elSz rfl (elOne _ _) ?_
                intro WF hbF hsF
                have hkF : Keep [V] w2 WF := hk8.more0.trans hsF
                clear hsF
                apply hK
                clear hK K
                go_simp
                refine wpAny_done (by kernel_rfl) ?_ _
                exact hR.out _ _ ⟨rfl, rfl, by repeat (first | exact trivial | refine ⟨rfl, ?_⟩)⟩ hbF hkF
              exact AllReady.nil
            exact AllReady.nil
          exact AllReady.nil
        exact AllReady.nil
      refine AllReady.cons rfl (fun K hK => ?_) ?_
      ·
        apply step_wp
        · rfl
        refine ow_call _ _ _ (by kernel_rfl) (CE _) ?_
        rintro e W2 ⟨rfl, hs2⟩
        refine ⟨_, rfl, ?_⟩
        have hk2 : Keep [] w2 W2 := hk0.trans0 hs2
        clear hs2
        apply hK
        clear hK K
        go_simp
        refine wpAny_ready (rs := [0]) (by kernel_rfl) (by simp) ?_
        refine AllReady.cons rfl (fun K hK => ?_) ?_
        ·
          apply step_wp
          · rfl
          refine ow_loadD _ _ rfl V rfl _ Try.underlying43 rfl _ _ (LV _ hk2) elSz ?_
          apply hK
          clear hK K
          go_simp
          refine wpAny_ready (rs := [3]) (by kernel_rfl) (by simp) ?_
          refine AllReady.cons rfl (fun K hK => ?_) ?_
          ·
            apply step_wp
            · rfl
            refine ow_call _ _ _ (by kernel_rfl) (CP _) ?_
            rintro e W3 ⟨rfl, hs3⟩
            refine ⟨_, rfl, ?_⟩
            have hk3 : Keep [] w2 W3 := hk2.trans0 hs3
            clear hs3
            apply hK
            clear hK K
            go_simp
            refine wpAny_ready (rs := [8]) (by kernel_rfl) (by simp) ?_
            refine AllReady.cons rfl (fun K hK => ?_) ?_
            ·
              apply step_wp
              · rfl
              refine ow_call _ _ _ (by kernel_rfl) (CT _) ?_
              rintro e W8 ⟨rfl, hs8⟩
              refine ⟨_, rfl, ?_⟩
              have hk8 : Keep [] w2 W8 := hk3.trans0 hs8
              clear hs8
              apply hK
              clear hK K
              go_simp
              refine wpAny_ready (rs := [9]) (by kernel_rfl) (by simp) ?_
              refine AllReady.cons rfl (fun K hK => ?_) ?_
              ·
                apply step_wp
                · rfl
                refine ow_store _ _ _ rfl V (ec (Gcm.pr (n ^^^ Gcm.en l) h 128)) rfl rfl _ _ (LV _ hk8) elSz rfl (elOne _ _) ?_
                intro WF hbF hsF
                have hkF : Keep [V] w2 WF := hk8.more0.trans hsF
                clear hsF
                apply hK
                clear hK K
                go_simp
                refine wpAny_done (by kernel_rfl) ?_ _
                exact hR.out _ _ ⟨rfl, rfl, by repeat (first | exact trivial | refine ⟨rfl, ?_⟩)⟩ hbF hkF
              exact AllReady.nil
            exact AllReady.nil
          exact AllReady.nil
        exact AllReady.nil
      exact AllReady.nil
    exact AllReady.nil
  exact AllReady.nil

noncomputable def htag_reg4 : Code := regionOf Try.f16 4
set_option maxRecDepth 100000 in
set_option maxHeartbeats 8000000 in
theorem tag_reg4 (R : Act → World → Prop) (a : Act) (w2 : World) (s p V M n q h : Nat) (v5 v8 : Value) (hn : n < 2 ^ 128) (hq : q < 2 ^ 128) (hh : h < 2 ^ 128)
    (hBV : Hid (Blk w2 V 43 (ec n))) (hBM : Hid (Blk w2 M 43 (ec q))) (hBS : Hid (SB w2 s p h))
    (hF : Fr 46 [(0, .pointer (some ⟨s, 0, none⟩)), (5, v5), (8, v8), (9, .pointer (some ⟨V, 0, none⟩)), (10, .pointer (some ⟨M, 0, none⟩))] a)
    (hR : Hid (∀ a' w', Fr 46 [(0, .pointer (some ⟨s, 0, none⟩)), (5, v5), (8, v8), (9, .pointer (some ⟨V, 0, none⟩)), (10, .pointer (some ⟨M, 0, none⟩))] a' → Blk w' V 43 (ec (Gcm.pr (n ^^^ q) h 128)) → Keep [V] w2 w' → R a' w')) :
    Code.wp Try.prog htag_reg4 (OutN R) a w2 := by
  have LV : ∀ W, Keep [] w2 W → Blk W V 43 (ec n) := fun W h => hBV.out.keep h (by simp)
  have LM : ∀ W, Keep [] w2 W → Blk W M 43 (ec q) := fun W h => hBM.out.keep h (by simp)
  have LS : ∀ W, Keep [] w2 W → SB W s p h := fun W hh => hBS.out.keep hh (by simp)
  have CP := fun w => el_plus n q hn hq w
  have hx : n ^^^ q < 2 ^ 128 := Nat.xor_lt_two_pow hn hq
  have CT := fun w => el_times (n ^^^ q) h hx hh w
  clear hx hn hh hq
  obtain ⟨f, ⟨f0, f5, f8, f9, f10, -⟩, rfl⟩ := hF.open46
  simp only [f0, f5, f8, f9, f10]
  clear f0 f5 f8 f9 f10 hF
  conv => arg 2; whnf
  refine wp_region_any (by kernel_rfl) ?_
  change wpAny _ _ _ _ _ _ _ (World.drew _)
  obtain ⟨W0, hW0⟩ : ∃ W0, W0 = w2.drew := ⟨_, rfl⟩
  rw [← hW0]
  have hk0 : Keep [] w2 W0 := by rw [hW0]; exact (Keep.refl [] w2).drew
  clear hW0
  go_simp
  refine wpAny_take (i := 3) (v := ?_) rfl (by kernel_rfl) (by kernel_rfl) (by kernel_rfl) (fun _ _ _ h => h) (Or.inl ⟨by rfl, ?_⟩) ?_
  rotate_left
  · intro y; go_simp; try (with_reducible rfl)
  rotate_left
  go_simp
  refine wpAny_take (i := 4) (v := ?_) rfl (by kernel_rfl) (by kernel_rfl) (by kernel_rfl) (fun _ _ _ h => h) (Or.inl ⟨by rfl, ?_⟩) ?_
  rotate_left
  · intro y; go_simp; try (with_reducible rfl)
  rotate_left
  go_simp
  refine wpAny_take (i := 5) (v := ?_) rfl (by kernel_rfl) (by kernel_rfl) (by kernel_rfl) (fun _ _ _ h => h) (Or.inl ⟨by rfl, ?_⟩) ?_
  rotate_left
  · intro y; go_simp; try (with_reducible rfl)
  rotate_left
  go_simp
  refine wpAny_ready (rs := [0, 1, 6]) (by kernel_rfl) (by simp) ?_
  refine AllReady.cons rfl (fun K hK => ?_) ?_
  ·
    apply step_wp
    · rfl
    refine ow_loadD _ _ rfl V rfl _ Try.underlying43 rfl _ _ (LV _ hk0) elSz ?_
    apply hK
    clear hK K
    go_simp
    refine wpAny_ready (rs := [1, 6]) (by kernel_rfl) (by simp) ?_
    refine AllReady.cons rfl (fun K hK => ?_) ?_
    ·
      apply step_wp
      · rfl
      refine ow_loadD _ _ rfl M rfl _ Try.underlying43 rfl _ _ (LM _ hk0) elSz ?_
      apply hK
      clear hK K
      go_simp
      refine wpAny_ready (rs := [2, 6]) (by kernel_rfl) (by simp) ?_
      refine AllReady.cons rfl (fun K hK => ?_) ?_
      ·
        apply step_wp
        · rfl
        refine ow_call _ _ _ (by kernel_rfl) (CP _) ?_
        rintro e W2 ⟨rfl, hs2⟩
        refine ⟨_, rfl, ?_⟩
        have hk2 : Keep [] w2 W2 := hk0.trans0 hs2
        clear hs2
        apply hK
        clear hK K
        go_simp
        refine wpAny_ready (rs := [6]) (by kernel_rfl) (by simp) ?_
        refine AllReady.cons rfl (fun K hK => ?_) ?_
        ·
          apply step_wp
          · rfl
          refine ow_load_midD _ _ rfl s [Value.pointer (some ⟨p, 0, none⟩)] (ec h).toList [] 1 rfl rfl _ Try.underlying43 rfl elSz _ (LS _ hk2) ?_
          apply hK
          clear hK K
          go_simp
          refine wpAny_ready (rs := [7]) (by kernel_rfl) (by simp) ?_
          refine AllReady.cons rfl (fun K hK => ?_) ?_
          ·
            apply step_wp
            · rfl
            refine ow_call _ _ _ (by kernel_rfl) (CT _) ?_
            rintro e W7 ⟨rfl, hs7⟩
            refine ⟨_, rfl, ?_⟩
            have hk7 : Keep [] w2 W7 := hk2.trans0 hs7
            clear hs7
            apply hK
            clear hK K
            go_simp
            refine wpAny_ready (rs := [8]) (by kernel_rfl) (by simp) ?_
            refine AllReady.cons rfl (fun K hK => ?_) ?_
            ·
              apply step_wp
              · rfl
              refine ow_store _ _ _ rfl V (ec (Gcm.pr (n ^^^ q) h 128)) rfl rfl _ _ (LV _ hk7) elSz rfl (elOne _ _) ?_
              intro WF hbF hsF
              have hkF : Keep [V] w2 WF := hk7.more0.trans hsF
              clear hsF
              apply hK
              clear hK K
              go_simp
              refine wpAny_done (by kernel_rfl) ?_ _
              exact hR.out _ _ ⟨rfl, rfl, by repeat (first | exact trivial | refine ⟨rfl, ?_⟩)⟩ hbF hkF
            exact AllReady.nil
          exact AllReady.nil
        exact AllReady.nil
      refine AllReady.cons rfl (fun K hK => ?_) ?_
      ·
        apply step_wp
        · rfl
        refine ow_load_midD _ _ rfl s [Value.pointer (some ⟨p, 0, none⟩)] (ec h).toList [] 1 rfl rfl _ Try.underlying43 rfl elSz _ (LS _ hk0) ?_
        apply hK
        clear hK K
        go_simp
        refine wpAny_ready (rs := [2]) (by kernel_rfl) (by simp) ?_
        refine AllReady.cons rfl (fun K hK => ?_) ?_
        ·
          apply step_wp
          · rfl
          refine ow_call _ _ _ (by kernel_rfl) (CP _) ?_
          rintro e W2 ⟨rfl, hs2⟩
          refine ⟨_, rfl, ?_⟩
          have hk2 : Keep [] w2 W2 := hk0.trans0 hs2
          clear hs2
          apply hK
          clear hK K
          go_simp
          refine wpAny_ready (rs := [7]) (by kernel_rfl) (by simp) ?_
          refine AllReady.cons rfl (fun K hK => ?_) ?_
          ·
            apply step_wp
            · rfl
            refine ow_call _ _ _ (by kernel_rfl) (CT _) ?_
            rintro e W7 ⟨rfl, hs7⟩
            refine ⟨_, rfl, ?_⟩
            have hk7 : Keep [] w2 W7 := hk2.trans0 hs7
            clear hs7
            apply hK
            clear hK K
            go_simp
            refine wpAny_ready (rs := [8]) (by kernel_rfl) (by simp) ?_
            refine AllReady.cons rfl (fun K hK => ?_) ?_
            ·
              apply step_wp
              · rfl
              refine ow_store _ _ _ rfl V (ec (Gcm.pr (n ^^^ q) h 128)) rfl rfl _ _ (LV _ hk7) elSz rfl (elOne _ _) ?_
              intro WF hbF hsF
              have hkF : Keep [V] w2 WF := hk7.more0.trans hsF
              clear hsF
              apply hK
              clear hK K
              go_simp
              refine wpAny_done (by kernel_rfl) ?_ _
              exact hR.out _ _ ⟨rfl, rfl, by repeat (first | exact trivial | refine ⟨rfl, ?_⟩)⟩ hbF hkF
            exact AllReady.nil
          exact AllReady.nil
        exact AllReady.nil
      exact AllReady.nil
    refine AllReady.cons rfl (fun K hK => ?_) ?_
    ·
      apply step_wp
      · rfl
      refine ow_load_midD _ _ rfl s [Value.pointer (some ⟨p, 0, none⟩)] (ec h).toList [] 1 rfl rfl _ Try.underlying43 rfl elSz _ (LS _ hk0) ?_
      apply hK
      clear hK K
      go_simp
      refine wpAny_ready (rs := [1]) (by kernel_rfl) (by simp) ?_
      refine AllReady.cons rfl (fun K hK => ?_) ?_
      ·
        apply step_wp
        · rfl
        refine ow_loadD _ _ rfl M rfl _ Try.underlying43 rfl _ _ (LM _ hk0) elSz ?_
        apply hK
        clear hK K
        go_simp
        refine wpAny_ready (rs := [2]) (by kernel_rfl) (by simp) ?_
        refine AllReady.cons rfl (fun K hK => ?_) ?_
        ·
          apply step_wp
          · rfl
          refine ow_call _ _ _ (by kernel_rfl) (CP _) ?_
          rintro e W2 ⟨rfl, hs2⟩
          refine ⟨_, rfl, ?_⟩
          have hk2 : Keep [] w2 W2 := hk0.trans0 hs2
          clear hs2
          apply hK
          clear hK K
          go_simp
          refine wpAny_ready (rs := [7]) (by kernel_rfl) (by simp) ?_
          refine AllReady.cons rfl (fun K hK => ?_) ?_
          ·
            apply step_wp
            · rfl
            refine ow_call _ _ _ (by kernel_rfl) (CT _) ?_
            rintro e W7 ⟨rfl, hs7⟩
            refine ⟨_, rfl, ?_⟩
            have hk7 : Keep [] w2 W7 := hk2.trans0 hs7
            clear hs7
            apply hK
            clear hK K
            go_simp
            refine wpAny_ready (rs := [8]) (by kernel_rfl) (by simp) ?_
            refine AllReady.cons rfl (fun K hK => ?_) ?_
            ·
              apply step_wp
              · rfl
              refine ow_store _ _ _ rfl V (ec (Gcm.pr (n ^^^ q) h 128)) rfl rfl _ _ (LV _ hk7) elSz rfl (elOne _ _) ?_
              intro WF hbF hsF
              have hkF : Keep [V] w2 WF := hk7.more0.trans hsF
              clear hsF
              apply hK
              clear hK K
              go_simp
              refine wpAny_done (by kernel_rfl) ?_ _
              exact hR.out _ _ ⟨rfl, rfl, by repeat (first | exact trivial | refine ⟨rfl, ?_⟩)⟩ hbF hkF
            exact AllReady.nil
          exact AllReady.nil
        exact AllReady.nil
      exact AllReady.nil
    exact AllReady.nil
  refine AllReady.cons rfl (fun K hK => ?_) ?_
  ·
    apply step_wp
    · rfl
    refine ow_loadD _ _ rfl M rfl _ Try.underlying43 rfl _ _ (LM _ hk0) elSz ?_
    apply hK
    clear hK K
    go_simp
    refine wpAny_ready (rs := [0, 6]) (by kernel_rfl) (by simp) ?_
    refine AllReady.cons rfl (fun K hK => ?_) ?_
    ·
      apply step_wp
      · rfl
      refine ow_loadD _ _ rfl V rfl _ Try.underlying43 rfl _ _ (LV _ hk0) elSz ?_
      apply hK
      clear hK K
      go_simp
      refine wpAny_ready (rs := [2, 6]) (by kernel_rfl) (by simp) ?_
      refine AllReady.cons rfl (fun K hK => ?_) ?_
      ·
        apply step_wp
        · rfl
        refine ow_call _ _ _ (by kernel_rfl) (CP _) ?_
        rintro e W2 ⟨rfl, hs2⟩
        refine ⟨_, rfl, ?_⟩
        have hk2 : Keep [] w2 W2 := hk0.trans0 hs2
        clear hs2
        apply hK
        clear hK K
        go_simp
        refine wpAny_ready (rs := [6]) (by kernel_rfl) (by simp) ?_
        refine AllReady.cons rfl (fun K hK => ?_) ?_
        ·
          apply step_wp
          · rfl
          refine ow_load_midD _ _ rfl s [Value.pointer (some ⟨p, 0, none⟩)] (ec h).toList [] 1 rfl rfl _ Try.underlying43 rfl elSz _ (LS _ hk2) ?_
          apply hK
          clear hK K
          go_simp
          refine wpAny_ready (rs := [7]) (by kernel_rfl) (by simp) ?_
          refine AllReady.cons rfl (fun K hK => ?_) ?_
          ·
            apply step_wp
            · rfl
            refine ow_call _ _ _ (by kernel_rfl) (CT _) ?_
            rintro e W7 ⟨rfl, hs7⟩
            refine ⟨_, rfl, ?_⟩
            have hk7 : Keep [] w2 W7 := hk2.trans0 hs7
            clear hs7
            apply hK
            clear hK K
            go_simp
            refine wpAny_ready (rs := [8]) (by kernel_rfl) (by simp) ?_
            refine AllReady.cons rfl (fun K hK => ?_) ?_
            ·
              apply step_wp
              · rfl
              refine ow_store _ _ _ rfl V (ec (Gcm.pr (n ^^^ q) h 128)) rfl rfl _ _ (LV _ hk7) elSz rfl (elOne _ _) ?_
              intro WF hbF hsF
              have hkF : Keep [V] w2 WF := hk7.more0.trans hsF
              clear hsF
              apply hK
              clear hK K
              go_simp
              refine wpAny_done (by kernel_rfl) ?_ _
              exact hR.out _ _ ⟨rfl, rfl, by repeat (first | exact trivial | refine ⟨rfl, ?_⟩)⟩ hbF hkF
            exact AllReady.nil
          exact AllReady.nil
        exact AllReady.nil
      refine AllReady.cons rfl (fun K hK => ?_) ?_
      ·
        apply step_wp
        · rfl
        refine ow_load_midD _ _ rfl s [Value.pointer (some ⟨p, 0, none⟩)] (ec h).toList [] 1 rfl rfl _ Try.underlying43 rfl elSz _ (LS _ hk0) ?_
        apply hK
        clear hK K
        go_simp
        refine wpAny_ready (rs := [2]) (by kernel_rfl) (by simp) ?_
        refine AllReady.cons rfl (fun K hK => ?_) ?_
        ·
          apply step_wp
          · rfl
          refine ow_call _ _ _ (by kernel_rfl) (CP _) ?_
          rintro e W2 ⟨rfl, hs2⟩
          refine ⟨_, rfl, ?_⟩
          have hk2 : Keep [] w2 W2 := hk0.trans0 hs2
          clear hs2
          apply hK
          clear hK K
          go_simp
          refine wpAny_ready (rs := [7]) (by kernel_rfl) (by simp) ?_
          refine AllReady.cons rfl (fun K hK => ?_) ?_
          ·
            apply step_wp
            · rfl
            refine ow_call _ _ _ (by kernel_rfl) (CT _) ?_
            rintro e W7 ⟨rfl, hs7⟩
            refine ⟨_, rfl, ?_⟩
            have hk7 : Keep [] w2 W7 := hk2.trans0 hs7
            clear hs7
            apply hK
            clear hK K
            go_simp
            refine wpAny_ready (rs := [8]) (by kernel_rfl) (by simp) ?_
            refine AllReady.cons rfl (fun K hK => ?_) ?_
            ·
              apply step_wp
              · rfl
              refine ow_store _ _ _ rfl V (ec (Gcm.pr (n ^^^ q) h 128)) rfl rfl _ _ (LV _ hk7) elSz rfl (elOne _ _) ?_
              intro WF hbF hsF
              have hkF : Keep [V] w2 WF := hk7.more0.trans hsF
              clear hsF
              apply hK
              clear hK K
              go_simp
              refine wpAny_done (by kernel_rfl) ?_ _
              exact hR.out _ _ ⟨rfl, rfl, by repeat (first | exact trivial | refine ⟨rfl, ?_⟩)⟩ hbF hkF
            exact AllReady.nil
          exact AllReady.nil
        exact AllReady.nil
      exact AllReady.nil
    refine AllReady.cons rfl (fun K hK => ?_) ?_
    ·
      apply step_wp
      · rfl
      refine ow_load_midD _ _ rfl s [Value.pointer (some ⟨p, 0, none⟩)] (ec h).toList [] 1 rfl rfl _ Try.underlying43 rfl elSz _ (LS _ hk0) ?_
      apply hK
      clear hK K
      go_simp
      refine wpAny_ready (rs := [0]) (by kernel_rfl) (by simp) ?_
      refine AllReady.cons rfl (fun K hK => ?_) ?_
      ·
        apply step_wp
        · rfl
        refine ow_loadD _ _ rfl V rfl _ Try.underlying43 rfl _ _ (LV _ hk0) elSz ?_
        apply hK
        clear hK K
        go_simp
        refine wpAny_ready (rs := [2]) (by kernel_rfl) (by simp) ?_
        refine AllReady.cons rfl (fun K hK => ?_) ?_
        ·
          apply step_wp
          · rfl
          refine ow_call _ _ _ (by kernel_rfl) (CP _) ?_
          rintro e W2 ⟨rfl, hs2⟩
          refine ⟨_, rfl, ?_⟩
          have hk2 : Keep [] w2 W2 := hk0.trans0 hs2
          clear hs2
          apply hK
          clear hK K
          go_simp
          refine wpAny_ready (rs := [7]) (by kernel_rfl) (by simp) ?_
          refine AllReady.cons rfl (fun K hK => ?_) ?_
          ·
            apply step_wp
            · rfl
            refine ow_call _ _ _ (by kernel_rfl) (CT _) ?_
            rintro e W7 ⟨rfl, hs7⟩
            refine ⟨_, rfl, ?_⟩
            have hk7 : Keep [] w2 W7 := hk2.trans0 hs7
            clear hs7
            apply hK
            clear hK K
            go_simp
            refine wpAny_ready (rs := [8]) (by kernel_rfl) (by simp) ?_
            refine AllReady.cons rfl (fun K hK => ?_) ?_
            ·
              apply step_wp
              · rfl
              refine ow_store _ _ _ rfl V (ec (Gcm.pr (n ^^^ q) h 128)) rfl rfl _ _ (LV _ hk7) elSz rfl (elOne _ _) ?_
              intro WF hbF hsF
              have hkF : Keep [V] w2 WF := hk7.more0.trans hsF
              clear hsF
              apply hK
              clear hK K
              go_simp
              refine wpAny_done (by kernel_rfl) ?_ _
              exact hR.out _ _ ⟨rfl, rfl, by repeat (first | exact trivial | refine ⟨rfl, ?_⟩)⟩ hbF hkF
            exact AllReady.nil
          exact AllReady.nil
        exact AllReady.nil
      exact AllReady.nil
    exact AllReady.nil
  refine AllReady.cons rfl (fun K hK => ?_) ?_
  ·
    apply step_wp
    · rfl
    refine ow_load_midD _ _ rfl s [Value.pointer (some ⟨p, 0, none⟩)] (ec h).toList [] 1 rfl rfl _ Try.underlying43 rfl elSz _ (LS _ hk0) ?_
    apply hK
    clear hK K
    go_simp
    refine wpAny_ready (rs := [0, 1]) (by kernel_rfl) (by simp) ?_
    refine AllReady.cons rfl (fun K hK => ?_) ?_
    ·
      apply step_wp
      · rfl
      refine ow_loadD _ _ rfl V rfl _ Try.underlying43 rfl _ _ (LV _ hk0) elSz ?_
      apply hK
      clear hK K
      go_simp
      refine wpAny_ready (rs := [1]) (by kernel_rfl) (by simp) ?_
      refine AllReady.cons rfl (fun K hK => ?_) ?_
      ·
        apply step_wp
        · rfl
        refine ow_loadD _ _ rfl M rfl _ Try.underlying43 rfl _ _ (LM _ hk0) elSz ?_
        apply hK
        clear hK K
        go_simp
        refine wpAny_ready (rs := [2]) (by kernel_rfl) (by simp) ?_
        refine AllReady.cons rfl (fun K hK => ?_) ?_
        ·
          apply step_wp
          · rfl
          refine ow_call _ _ _ (by kernel_rfl) (CP _) ?_
          rintro e W2 ⟨rfl, hs2⟩
          refine ⟨_, rfl, ?_⟩
          have hk2 : Keep [] w2 W2 := hk0.trans0 hs2
          clear hs2
          apply hK
          clear hK K
          go_simp
          refine wpAny_ready (rs := [7]) (by kernel_rfl) (by simp) ?_
          refine AllReady.cons rfl (fun K hK => ?_) ?_
          ·
            apply step_wp
            · rfl
            refine ow_call _ _ _ (by kernel_rfl) (CT _) ?_
            rintro e W7 ⟨rfl, hs7⟩
            refine ⟨_, rfl, ?_⟩
            have hk7 : Keep [] w2 W7 := hk2.trans0 hs7
            clear hs7
            apply hK
            clear hK K
            go_simp
            refine wpAny_ready (rs := [8]) (by kernel_rfl) (by simp) ?_
            refine AllReady.cons rfl (fun K hK => ?_) ?_
            ·
              apply step_wp
              · rfl
              refine ow_store _ _ _ rfl V (ec (Gcm.pr (n ^^^ q) h 128)) rfl rfl _ _ (LV _ hk7) elSz rfl (elOne _ _) ?_
              intro WF hbF hsF
              have hkF : Keep [V] w2 WF := hk7.more0.trans hsF
              clear hsF
              apply hK
              clear hK K
              go_simp
              refine wpAny_done (by kernel_rfl) ?_ _
              exact hR.out _ _ ⟨rfl, rfl, by repeat (first | exact trivial | refine ⟨rfl, ?_⟩)⟩ hbF hkF
            exact AllReady.nil
          exact AllReady.nil
        exact AllReady.nil
      exact AllReady.nil
    refine AllReady.cons rfl (fun K hK => ?_) ?_
    ·
      apply step_wp
      · rfl
      refine ow_loadD _ _ rfl M rfl _ Try.underlying43 rfl _ _ (LM _ hk0) elSz ?_
      apply hK
      clear hK K
      go_simp
      refine wpAny_ready (rs := [0]) (by kernel_rfl) (by simp) ?_
      refine AllReady.cons rfl (fun K hK => ?_) ?_
      ·
        apply step_wp
        · rfl
        refine ow_loadD _ _ rfl V rfl _ Try.underlying43 rfl _ _ (LV _ hk0) elSz ?_
        apply hK
        clear hK K
        go_simp
        refine wpAny_ready (rs := [2]) (by kernel_rfl) (by simp) ?_
        refine AllReady.cons rfl (fun K hK => ?_) ?_
        ·
          apply step_wp
          · rfl
          refine ow_call _ _ _ (by kernel_rfl) (CP _) ?_
          rintro e W2 ⟨rfl, hs2⟩
          refine ⟨_, rfl, ?_⟩
          have hk2 : Keep [] w2 W2 := hk0.trans0 hs2
          clear hs2
          apply hK
          clear hK K
          go_simp
          refine wpAny_ready (rs := [7]) (by kernel_rfl) (by simp) ?_
          refine AllReady.cons rfl (fun K hK => ?_) ?_
          ·
            apply step_wp
            · rfl
            refine ow_call _ _ _ (by kernel_rfl) (CT _) ?_
            rintro e W7 ⟨rfl, hs7⟩
            refine ⟨_, rfl, ?_⟩
            have hk7 : Keep [] w2 W7 := hk2.trans0 hs7
            clear hs7
            apply hK
            clear hK K
            go_simp
            refine wpAny_ready (rs := [8]) (by kernel_rfl) (by simp) ?_
            refine AllReady.cons rfl (fun K hK => ?_) ?_
            ·
              apply step_wp
              · rfl
              refine ow_store _ _ _ rfl V (ec (Gcm.pr (n ^^^ q) h 128)) rfl rfl _ _ (LV _ hk7) elSz rfl (elOne _ _) ?_
              intro WF hbF hsF
              have hkF : Keep [V] w2 WF := hk7.more0.trans hsF
              clear hsF
              apply hK
              clear hK K
              go_simp
              refine wpAny_done (by kernel_rfl) ?_ _
              exact hR.out _ _ ⟨rfl, rfl, by repeat (first | exact trivial | refine ⟨rfl, ?_⟩)⟩ hbF hkF
            exact AllReady.nil
          exact AllReady.nil
        exact AllReady.nil
      exact AllReady.nil
    exact AllReady.nil
  exact AllReady.nil

noncomputable def htag_reg5 : Code := regionOf Try.f16 5
set_option maxRecDepth 100000 in
set_option maxHeartbeats 8000000 in
theorem tag_reg5 (R : Act → World → Prop) (a : Act) (w2 : World) (s p g V N C n m c0 h : Nat) (k nn : List Int) (D : Array Value) (hn : n < 2 ^ 128) (hk : B16 k) (hnn : N12 nn) (hDn : Hid (D = (nn.map (Value.int .u8)).toArray)) (hD : Hid (D.size = 12)) (hm : m ≤ 1000000) (hne : Hid (V ∉ [g] ∧ C ∉ [g] ∧ N ∉ [g] ∧ s ∉ [g] ∧ g ∉ [C]))
    (hBV : Hid (Blk w2 V 43 (ec n))) (hBC : Hid (Blk w2 C 43 (ec c0))) (hBN : Hid (Blk w2 N 25 D)) (hBS : Hid (SB w2 s p h)) (hAT : Hid (AT w2 g m)) (hAK : Hid (AK w2 p g k))
    (hF : Fr 46 [(0, .pointer (some ⟨s, 0, none⟩)), (5, .pointer (some ⟨N, 0, none⟩)), (8, .pointer (some ⟨C, 0, none⟩)), (9, .pointer (some ⟨V, 0, none⟩))] a)
    (hR : Hid (∀ a' w', Fr 46 [(0, .pointer (some ⟨s, 0, none⟩)), (5, .pointer (some ⟨N, 0, none⟩)), (8, .pointer (some ⟨C, 0, none⟩)), (9, .pointer (some ⟨V, 0, none⟩))] a' → Blk w' C 43 (ec (n ^^^ Gcm.en (Aes.turn k (Gcm.ctr nn 1)))) → AT w' g (m + 1) → Keep [g, C] w2 w' → R a' w')) :
    Code.wp Try.prog htag_reg5 (OutN R) a w2 := by
  have LV : ∀ W, Keep [g] w2 W → Blk W V 43 (ec n) := fun W h => hBV.out.keep h hne.out.1
  have LC : ∀ W, Keep [g] w2 W → Blk W C 43 (ec c0) := fun W h => hBC.out.keep h hne.out.2.1
  have LN : ∀ W, Keep [g] w2 W → Blk W N 25 D := fun W h => hBN.out.keep h hne.out.2.2.1
  have LS : ∀ W, Keep [g] w2 W → W.cell? ⟨s, 0, none⟩ = some (.pointer (some ⟨p, 0, none⟩)) := fun W hh => (hBS.out.keep hh hne.out.2.2.2.1).key
  have LA : ∀ W, Keep [] w2 W → AT W g m := fun W h => hAT.out.keep h (by simp)
  have LK : ∀ W, Keep [] w2 W → AK W p g k := fun W h => hAK.out.keep h (by simp)
  have CC := fun w => counter_any nn hnn 1 (by decide) w
  rw [arr_agg, ← hDn.out] at CC
  have CU := fun w h1 h2 => aTurnC w p g m k _ h1 h2 hm hk (ctr_b16 hnn 1 (by decide))
  have CE := fun w => el_of (Aes.turn k (Gcm.ctr nn 1)) (turn_b16 hk (ctr_b16 hnn 1 (by decide))) w
  have CP := fun w => el_plus n (Gcm.en (Aes.turn k (Gcm.ctr nn 1))) hn (Gcm.en_lt _) w
  clear hm hn
  obtain ⟨f, ⟨f0, f5, f8, f9, -⟩, rfl⟩ := hF.open46
  simp only [f0, f5, f8, f9]
  clear f0 f5 f8 f9 hF
  conv => arg 2; whnf
  refine wp_region_any (by kernel_rfl) ?_
  change wpAny _ _ _ _ _ _ _ (World.drew _)
  obtain ⟨W0, hW0⟩ : ∃ W0, W0 = w2.drew := ⟨_, rfl⟩
  rw [← hW0]
  have hk0 : Keep [] w2 W0 := by rw [hW0]; exact (Keep.refl [] w2).drew
  have hg0 : Keep [g] w2 W0 := hk0.more0
  clear hW0
  go_simp
  refine wpAny_take (i := 1) (v := ?_) rfl (by kernel_rfl) (by kernel_rfl) (by kernel_rfl) (fun _ _ _ h => h) (Or.inl ⟨by rfl, ?_⟩) ?_
  rotate_left
  · intro y; go_simp; try (with_reducible rfl)
  rotate_left
  go_simp
  refine wpAny_take (i := 2) (v := ?_) rfl (by kernel_rfl) (by kernel_rfl) (by kernel_rfl) (fun _ _ _ h => h) (Or.inl ⟨by rfl, ?_⟩) ?_
  rotate_left
  · intro y; go_simp; try (with_reducible rfl)
  rotate_left
  go_simp
  refine wpAny_take (i := 3) (v := ?_) rfl (by kernel_rfl) (by kernel_rfl) (by kernel_rfl) (fun _ _ _ h => h) (Or.inl ⟨by rfl, ?_⟩) ?_
  rotate_left
  · intro y; go_simp; try (with_reducible rfl)
  rotate_left
  go_simp
  refine wpAny_ready (rs := [0, 4, 5]) (by kernel_rfl) (by simp) ?_
  refine AllReady.cons rfl (fun K hK => ?_) ?_
  ·
    apply step_wp
    · rfl
    refine ow_loadD _ _ rfl V rfl _ Try.underlying43 rfl _ _ (LV _ hg0) elSz ?_
    apply hK
    clear hK K
    go_simp
    refine wpAny_ready (rs := [4, 5]) (by kernel_rfl) (by simp) ?_
    refine AllReady.cons rfl (fun K hK => ?_) ?_
    ·
      apply step_wp
      · rfl
      have q := LS _ hg0
      refine ow_load1 _ _ rfl ⟨s, 0, none⟩ rfl (.pointer (some ⟨p, 0, none⟩)) (by simp [go_sem, q]) ?_
      clear q
      apply hK
      clear hK K
      go_simp
      refine wpAny_ready (rs := [5]) (by kernel_rfl) (by simp) ?_
      refine AllReady.cons rfl (fun K hK => ?_) ?_
      ·
        apply step_wp
        · rfl
        refine ow_load _ _ rfl N rfl 12 5 Try.underlying25 _ D (LN _ hg0) (by rw [hD.out]; exact nonceCells') ?_
        apply hK
        clear hK K
        go_simp
        refine wpAny_ready (rs := [6]) (by kernel_rfl) (by simp) ?_
        refine AllReady.cons rfl (fun K hK => ?_) ?_
        ·
          apply step_wp
          · rfl
          refine ow_call _ _ _ (by kernel_rfl) (CC _) ?_
          rintro e W6 ⟨rfl, hs6⟩
          refine ⟨_, rfl, ?_⟩
          have hk6 : Keep [] w2 W6 := hk0.trans hs6
          have hg6 : Keep [g] w2 W6 := hk6.more0
          clear hs6
          apply hK
          clear hK K
          go_simp
          refine wpAny_ready (rs := [7]) (by kernel_rfl) (by simp) ?_
          refine AllReady.cons rfl (fun K hK => ?_) ?_
          ·
            apply step_wp
            · rfl
            refine ow_call _ _ _ (by kernel_rfl) (CU _ (LK _ hk6) (LA _ hk6)) ?_
            rintro e W7 ⟨rfl, hat, hs7⟩
            refine ⟨_, rfl, ?_⟩
            have hg7 : Keep [g] w2 W7 := hk6.more0.trans hs7
            clear hs7
            apply hK
            clear hK K
            go_simp
            refine wpAny_ready (rs := [8]) (by kernel_rfl) (by simp) ?_
            refine AllReady.cons rfl (fun K hK => ?_) ?_
            ·
              apply step_wp
              · rfl
              refine ow_call _ _ _ (by kernel_rfl) (CE _) ?_
              rintro e W8 ⟨rfl, hs8⟩
              refine ⟨_, rfl, ?_⟩
              have hg8 : Keep [g] w2 W8 := hg7.trans0 hs8
              replace hat := hat.keep hs8 (by simp)
              clear hs8
              apply hK
              clear hK K
              go_simp
              refine wpAny_ready (rs := [9]) (by kernel_rfl) (by simp) ?_
              refine AllReady.cons rfl (fun K hK => ?_) ?_
              ·
                apply step_wp
                · rfl
                refine ow_call _ _ _ (by kernel_rfl) (CP _) ?_
                rintro e W9 ⟨rfl, hs9⟩
                refine ⟨_, rfl, ?_⟩
                have hg9 : Keep [g] w2 W9 := hg8.trans0 hs9
                replace hat := hat.keep hs9 (by simp)
                clear hs9
                apply hK
                clear hK K
                go_simp
                refine wpAny_ready (rs := [10]) (by kernel_rfl) (by simp) ?_
                refine AllReady.cons rfl (fun K hK => ?_) ?_
                ·
                  apply step_wp
                  · rfl
                  refine ow_store _ _ _ rfl C (ec (n ^^^ Gcm.en (Aes.turn k (Gcm.ctr nn 1)))) rfl rfl _ _ (LC _ hg9) elSz rfl (elOne _ _) ?_
                  intro WF hbF hsF
                  have hkF : Keep [g, C] w2 WF := (hg9.more (by simp)).trans' hsF (by simp)
                  replace hat := hat.keep hsF hne.out.2.2.2.2
                  clear hsF
                  apply hK
                  clear hK K
                  go_simp
                  refine wpAny_done (by kernel_rfl) ?_ _
                  exact hR.out _ _ ⟨rfl, rfl, by repeat (first | exact trivial | refine ⟨rfl, ?_⟩)⟩ hbF hat hkF
                exact AllReady.nil
              exact AllReady.nil
            exact AllReady.nil
          exact AllReady.nil
        exact AllReady.nil
      exact AllReady.nil
    refine AllReady.cons rfl (fun K hK => ?_) ?_
    ·
      apply step_wp
      · rfl
      refine ow_load _ _ rfl N rfl 12 5 Try.underlying25 _ D (LN _ hg0) (by rw [hD.out]; exact nonceCells') ?_
      apply hK
      clear hK K
      go_simp
      refine wpAny_ready (rs := [4, 6]) (by kernel_rfl) (by simp) ?_
      refine AllReady.cons rfl (fun K hK => ?_) ?_
      ·
        apply step_wp
        · rfl
        have q := LS _ hg0
        refine ow_load1 _ _ rfl ⟨s, 0, none⟩ rfl (.pointer (some ⟨p, 0, none⟩)) (by simp [go_sem, q]) ?_
        clear q
        apply hK
        clear hK K
        go_simp
        refine wpAny_ready (rs := [6]) (by kernel_rfl) (by simp) ?_
        refine AllReady.cons rfl (fun K hK => ?_) ?_
        ·
          apply step_wp
          · rfl
          refine ow_call _ _ _ (by kernel_rfl) (CC _) ?_
          rintro e W6 ⟨rfl, hs6⟩
          refine ⟨_, rfl, ?_⟩
          have hk6 : Keep [] w2 W6 := hk0.trans hs6
          have hg6 : Keep [g] w2 W6 := hk6.more0
          clear hs6
          apply hK
          clear hK K
          go_simp
          refine wpAny_ready (rs := [7]) (by kernel_rfl) (by simp) ?_
          refine AllReady.cons rfl (fun K hK => ?_) ?_
          ·
            apply step_wp
            · rfl
            refine ow_call _ _ _ (by kernel_rfl) (CU _ (LK _ hk6) (LA _ hk6)) ?_
            rintro e W7 ⟨rfl, hat, hs7⟩
            refine ⟨_, rfl, ?_⟩
            have hg7 : Keep [g] w2 W7 := hk6.more0.trans hs7
            clear hs7
            apply hK
            clear hK K
            go_simp
            refine wpAny_ready (rs := [8]) (by kernel_rfl) (by simp) ?_
            refine AllReady.cons rfl (fun K hK => ?_) ?_
            ·
              apply step_wp
              · rfl
              refine ow_call _ _ _ (by kernel_rfl) (CE _) ?_
              rintro e W8 ⟨rfl, hs8⟩
              refine ⟨_, rfl, ?_⟩
              have hg8 : Keep [g] w2 W8 := hg7.trans0 hs8
              replace hat := hat.keep hs8 (by simp)
              clear hs8
              apply hK
              clear hK K
              go_simp
              refine wpAny_ready (rs := [9]) (by kernel_rfl) (by simp) ?_
              refine AllReady.cons rfl (fun K hK => ?_) ?_
              ·
                apply step_wp
                · rfl
                refine ow_call _ _ _ (by kernel_rfl) (CP _) ?_
                rintro e W9 ⟨rfl, hs9⟩
                refine ⟨_, rfl, ?_⟩
                have hg9 : Keep [g] w2 W9 := hg8.trans0 hs9
                replace hat := hat.keep hs9 (by simp)
                clear hs9
                apply hK
                clear hK K
                go_simp
                refine wpAny_ready (rs := [10]) (by kernel_rfl) (by simp) ?_
                refine AllReady.cons rfl (fun K hK => ?_) ?_
                ·
                  apply step_wp
                  · rfl
                  refine ow_store _ _ _ rfl C (ec (n ^^^ Gcm.en (Aes.turn k (Gcm.ctr nn 1)))) rfl rfl _ _ (LC _ hg9) elSz rfl (elOne _ _) ?_
                  intro WF hbF hsF
                  have hkF : Keep [g, C] w2 WF := (hg9.more (by simp)).trans' hsF (by simp)
                  replace hat := hat.keep hsF hne.out.2.2.2.2
                  clear hsF
                  apply hK
                  clear hK K
                  go_simp
                  refine wpAny_done (by kernel_rfl) ?_ _
                  exact hR.out _ _ ⟨rfl, rfl, by repeat (first | exact trivial | refine ⟨rfl, ?_⟩)⟩ hbF hat hkF
                exact AllReady.nil
              exact AllReady.nil
            exact AllReady.nil
          exact AllReady.nil
        exact AllReady.nil
      refine AllReady.cons rfl (fun K hK => ?_) ?_
      ·
        apply step_wp
        · rfl
        refine ow_call _ _ _ (by kernel_rfl) (CC _) ?_
        rintro e W6 ⟨rfl, hs6⟩
        refine ⟨_, rfl, ?_⟩
        have hk6 : Keep [] w2 W6 := hk0.trans hs6
        have hg6 : Keep [g] w2 W6 := hk6.more0
        clear hs6
        apply hK
        clear hK K
        go_simp
        refine wpAny_ready (rs := [4]) (by kernel_rfl) (by simp) ?_
        refine AllReady.cons rfl (fun K hK => ?_) ?_
        ·
          apply step_wp
          · rfl
          have q := LS _ hg6
          refine ow_load1 _ _ rfl ⟨s, 0, none⟩ rfl (.pointer (some ⟨p, 0, none⟩)) (by simp [go_sem, q]) ?_
          clear q
          apply hK
          clear hK K
          go_simp
          refine wpAny_ready (rs := [7]) (by kernel_rfl) (by simp) ?_
          refine AllReady.cons rfl (fun K hK => ?_) ?_
          ·
            apply step_wp
            · rfl
            refine ow_call _ _ _ (by kernel_rfl) (CU _ (LK _ hk6) (LA _ hk6)) ?_
            rintro e W7 ⟨rfl, hat, hs7⟩
            refine ⟨_, rfl, ?_⟩
            have hg7 : Keep [g] w2 W7 := hk6.more0.trans hs7
            clear hs7
            apply hK
            clear hK K
            go_simp
            refine wpAny_ready (rs := [8]) (by kernel_rfl) (by simp) ?_
            refine AllReady.cons rfl (fun K hK => ?_) ?_
            ·
              apply step_wp
              · rfl
              refine ow_call _ _ _ (by kernel_rfl) (CE _) ?_
              rintro e W8 ⟨rfl, hs8⟩
              refine ⟨_, rfl, ?_⟩
              have hg8 : Keep [g] w2 W8 := hg7.trans0 hs8
              replace hat := hat.keep hs8 (by simp)
              clear hs8
              apply hK
              clear hK K
              go_simp
              refine wpAny_ready (rs := [9]) (by kernel_rfl) (by simp) ?_
              refine AllReady.cons rfl (fun K hK => ?_) ?_
              ·
                apply step_wp
                · rfl
                refine ow_call _ _ _ (by kernel_rfl) (CP _) ?_
                rintro e W9 ⟨rfl, hs9⟩
                refine ⟨_, rfl, ?_⟩
                have hg9 : Keep [g] w2 W9 := hg8.trans0 hs9
                replace hat := hat.keep hs9 (by simp)
                clear hs9
                apply hK
                clear hK K
                go_simp
                refine wpAny_ready (rs := [10]) (by kernel_rfl) (by simp) ?_
                refine AllReady.cons rfl (fun K hK => ?_) ?_
                ·
                  apply step_wp
                  · rfl
                  refine ow_store _ _ _ rfl C (ec (n ^^^ Gcm.en (Aes.turn k (Gcm.ctr nn 1)))) rfl rfl _ _ (LC _ hg9) elSz rfl (elOne _ _) ?_
                  intro WF hbF hsF
                  have hkF : Keep [g, C] w2 WF := (hg9.more (by simp)).trans' hsF (by simp)
                  replace hat := hat.keep hsF hne.out.2.2.2.2
                  clear hsF
                  apply hK
                  clear hK K
                  go_simp
                  refine wpAny_done (by kernel_rfl) ?_ _
                  exact hR.out _ _ ⟨rfl, rfl, by repeat (first | exact trivial | refine ⟨rfl, ?_⟩)⟩ hbF hat hkF
                exact AllReady.nil
              exact AllReady.nil
            exact AllReady.nil
          exact AllReady.nil
        exact AllReady.nil
      exact AllReady.nil
    exact AllReady.nil
  refine AllReady.cons rfl (fun K hK => ?_) ?_
  ·
    apply step_wp
    · rfl
    have q := LS _ hg0
    refine ow_load1 _ _ rfl ⟨s, 0, none⟩ rfl (.pointer (some ⟨p, 0, none⟩)) (by simp [go_sem, q]) ?_
    clear q
    apply hK
    clear hK K
    go_simp
    refine wpAny_ready (rs := [0, 5]) (by kernel_rfl) (by simp) ?_
    refine AllReady.cons rfl (fun K hK => ?_) ?_
    ·
      apply step_wp
      · rfl
      refine ow_loadD _ _ rfl V rfl _ Try.underlying43 rfl _ _ (LV _ hg0) elSz ?_
      apply hK
      clear hK K
      go_simp
      refine wpAny_ready (rs := [5]) (by kernel_rfl) (by simp) ?_
      refine AllReady.cons rfl (fun K hK => ?_) ?_
      ·
        apply step_wp
        · rfl
        refine ow_load _ _ rfl N rfl 12 5 Try.underlying25 _ D (LN _ hg0) (by rw [hD.out]; exact nonceCells') ?_
        apply hK
        clear hK K
        go_simp
        refine wpAny_ready (rs := [6]) (by kernel_rfl) (by simp) ?_
        refine AllReady.cons rfl (fun K hK => ?_) ?_
        ·
          apply step_wp
          · rfl
          refine ow_call _ _ _ (by kernel_rfl) (CC _) ?_
          rintro e W6 ⟨rfl, hs6⟩
          refine ⟨_, rfl, ?_⟩
          have hk6 : Keep [] w2 W6 := hk0.trans hs6
          have hg6 : Keep [g] w2 W6 := hk6.more0
          clear hs6
          apply hK
          clear hK K
          go_simp
          refine wpAny_ready (rs := [7]) (by kernel_rfl) (by simp) ?_
          refine AllReady.cons rfl (fun K hK => ?_) ?_
          ·
            apply step_wp
            · rfl
            refine ow_call _ _ _ (by kernel_rfl) (CU _ (LK _ hk6) (LA _ hk6)) ?_
            rintro e W7 ⟨rfl, hat, hs7⟩
            refine ⟨_, rfl, ?_⟩
            have hg7 : Keep [g] w2 W7 := hk6.more0.trans hs7
            clear hs7
            apply hK
            clear hK K
            go_simp
            refine wpAny_ready (rs := [8]) (by kernel_rfl) (by simp) ?_
            refine AllReady.cons rfl (fun K hK => ?_) ?_
            ·
              apply step_wp
              · rfl
              refine ow_call _ _ _ (by kernel_rfl) (CE _) ?_
              rintro e W8 ⟨rfl, hs8⟩
              refine ⟨_, rfl, ?_⟩
              have hg8 : Keep [g] w2 W8 := hg7.trans0 hs8
              replace hat := hat.keep hs8 (by simp)
              clear hs8
              apply hK
              clear hK K
              go_simp
              refine wpAny_ready (rs := [9]) (by kernel_rfl) (by simp) ?_
              refine AllReady.cons rfl (fun K hK => ?_) ?_
              ·
                apply step_wp
                · rfl
                refine ow_call _ _ _ (by kernel_rfl) (CP _) ?_
                rintro e W9 ⟨rfl, hs9⟩
                refine ⟨_, rfl, ?_⟩
                have hg9 : Keep [g] w2 W9 := hg8.trans0 hs9
                replace hat := hat.keep hs9 (by simp)
                clear hs9
                apply hK
                clear hK K
                go_simp
                refine wpAny_ready (rs := [10]) (by kernel_rfl) (by simp) ?_
                refine AllReady.cons rfl (fun K hK => ?_) ?_
                ·
                  apply step_wp
                  · rfl
                  refine ow_store _ _ _ rfl C (ec (n ^^^ Gcm.en (Aes.turn k (Gcm.ctr nn 1)))) rfl rfl _ _ (LC _ hg9) elSz rfl (elOne _ _) ?_
                  intro WF hbF hsF
                  have hkF : Keep [g, C] w2 WF := (hg9.more (by simp)).trans' hsF (by simp)
                  replace hat := hat.keep hsF hne.out.2.2.2.2
                  clear hsF
                  apply hK
                  clear hK K
                  go_simp
                  refine wpAny_done (by kernel_rfl) ?_ _
                  exact hR.out _ _ ⟨rfl, rfl, by repeat (first | exact trivial | refine ⟨rfl, ?_⟩)⟩ hbF hat hkF
                exact AllReady.nil
              exact AllReady.nil
            exact AllReady.nil
          exact AllReady.nil
        exact AllReady.nil
      exact AllReady.nil
    refine AllReady.cons rfl (fun K hK => ?_) ?_
    ·
      apply step_wp
      · rfl
      refine ow_load _ _ rfl N rfl 12 5 Try.underlying25 _ D (LN _ hg0) (by rw [hD.out]; exact nonceCells') ?_
      apply hK
      clear hK K
      go_simp
      refine wpAny_ready (rs := [0, 6]) (by kernel_rfl) (by simp) ?_
      refine AllReady.cons rfl (fun K hK => ?_) ?_
      ·
        apply step_wp
        · rfl
        refine ow_loadD _ _ rfl V rfl _ Try.underlying43 rfl _ _ (LV _ hg0) elSz ?_
        apply hK
        clear hK K
        go_simp
        refine wpAny_ready (rs := [6]) (by kernel_rfl) (by simp) ?_
        refine AllReady.cons rfl (fun K hK => ?_) ?_
        ·
          apply step_wp
          · rfl
          refine ow_call _ _ _ (by kernel_rfl) (CC _) ?_
          rintro e W6 ⟨rfl, hs6⟩
          refine ⟨_, rfl, ?_⟩
          have hk6 : Keep [] w2 W6 := hk0.trans hs6
          have hg6 : Keep [g] w2 W6 := hk6.more0
          clear hs6
          apply hK
          clear hK K
          go_simp
          refine wpAny_ready (rs := [7]) (by kernel_rfl) (by simp) ?_
          refine AllReady.cons rfl (fun K hK => ?_) ?_
          ·
            apply step_wp
            · rfl
            refine ow_call _ _ _ (by kernel_rfl) (CU _ (LK _ hk6) (LA _ hk6)) ?_
            rintro e W7 ⟨rfl, hat, hs7⟩
            refine ⟨_, rfl, ?_⟩
            have hg7 : Keep [g] w2 W7 := hk6.more0.trans hs7
            clear hs7
            apply hK
            clear hK K
            go_simp
            refine wpAny_ready (rs := [8]) (by kernel_rfl) (by simp) ?_
            refine AllReady.cons rfl (fun K hK => ?_) ?_
            ·
              apply step_wp
              · rfl
              refine ow_call _ _ _ (by kernel_rfl) (CE _) ?_
              rintro e W8 ⟨rfl, hs8⟩
              refine ⟨_, rfl, ?_⟩
              have hg8 : Keep [g] w2 W8 := hg7.trans0 hs8
              replace hat := hat.keep hs8 (by simp)
              clear hs8
              apply hK
              clear hK K
              go_simp
              refine wpAny_ready (rs := [9]) (by kernel_rfl) (by simp) ?_
              refine AllReady.cons rfl (fun K hK => ?_) ?_
              ·
                apply step_wp
                · rfl
                refine ow_call _ _ _ (by kernel_rfl) (CP _) ?_
                rintro e W9 ⟨rfl, hs9⟩
                refine ⟨_, rfl, ?_⟩
                have hg9 : Keep [g] w2 W9 := hg8.trans0 hs9
                replace hat := hat.keep hs9 (by simp)
                clear hs9
                apply hK
                clear hK K
                go_simp
                refine wpAny_ready (rs := [10]) (by kernel_rfl) (by simp) ?_
                refine AllReady.cons rfl (fun K hK => ?_) ?_
                ·
                  apply step_wp
                  · rfl
                  refine ow_store _ _ _ rfl C (ec (n ^^^ Gcm.en (Aes.turn k (Gcm.ctr nn 1)))) rfl rfl _ _ (LC _ hg9) elSz rfl (elOne _ _) ?_
                  intro WF hbF hsF
                  have hkF : Keep [g, C] w2 WF := (hg9.more (by simp)).trans' hsF (by simp)
                  replace hat := hat.keep hsF hne.out.2.2.2.2
                  clear hsF
                  apply hK
                  clear hK K
                  go_simp
                  refine wpAny_done (by kernel_rfl) ?_ _
                  exact hR.out _ _ ⟨rfl, rfl, by repeat (first | exact trivial | refine ⟨rfl, ?_⟩)⟩ hbF hat hkF
                exact AllReady.nil
              exact AllReady.nil
            exact AllReady.nil
          exact AllReady.nil
        exact AllReady.nil
      refine AllReady.cons rfl (fun K hK => ?_) ?_
      ·
        apply step_wp
        · rfl
        refine ow_call _ _ _ (by kernel_rfl) (CC _) ?_
        rintro e W6 ⟨rfl, hs6⟩
        refine ⟨_, rfl, ?_⟩
        have hk6 : Keep [] w2 W6 := hk0.trans hs6
        have hg6 : Keep [g] w2 W6 := hk6.more0
        clear hs6
        apply hK
        clear hK K
        go_simp
        refine wpAny_ready (rs := [0, 7]) (by kernel_rfl) (by simp) ?_
        refine AllReady.cons rfl (fun K hK => ?_) ?_
        ·
          apply step_wp
          · rfl
          refine ow_loadD _ _ rfl V rfl _ Try.underlying43 rfl _ _ (LV _ hg6) elSz ?_
          apply hK
          clear hK K
          go_simp
          refine wpAny_ready (rs := [7]) (by kernel_rfl) (by simp) ?_
          refine AllReady.cons rfl (fun K hK => ?_) ?_
          ·
            apply step_wp
            · rfl
            refine ow_call _ _ _ (by kernel_rfl) (CU _ (LK _ hk6) (LA _ hk6)) ?_
            rintro e W7 ⟨rfl, hat, hs7⟩
            refine ⟨_, rfl, ?_⟩
            have hg7 : Keep [g] w2 W7 := hk6.more0.trans hs7
            clear hs7
            apply hK
            clear hK K
            go_simp
            refine wpAny_ready (rs := [8]) (by kernel_rfl) (by simp) ?_
            refine AllReady.cons rfl (fun K hK => ?_) ?_
            ·
              apply step_wp
              · rfl
              refine ow_call _ _ _ (by kernel_rfl) (CE _) ?_
              rintro e W8 ⟨rfl, hs8⟩
              refine ⟨_, rfl, ?_⟩
              have hg8 : Keep [g] w2 W8 := hg7.trans0 hs8
              replace hat := hat.keep hs8 (by simp)
              clear hs8
              apply hK
              clear hK K
              go_simp
              refine wpAny_ready (rs := [9]) (by kernel_rfl) (by simp) ?_
              refine AllReady.cons rfl (fun K hK => ?_) ?_
              ·
                apply step_wp
                · rfl
                refine ow_call _ _ _ (by kernel_rfl) (CP _) ?_
                rintro e W9 ⟨rfl, hs9⟩
                refine ⟨_, rfl, ?_⟩
                have hg9 : Keep [g] w2 W9 := hg8.trans0 hs9
                replace hat := hat.keep hs9 (by simp)
                clear hs9
                apply hK
                clear hK K
                go_simp
                refine wpAny_ready (rs := [10]) (by kernel_rfl) (by simp) ?_
                refine AllReady.cons rfl (fun K hK => ?_) ?_
                ·
                  apply step_wp
                  · rfl
                  refine ow_store _ _ _ rfl C (ec (n ^^^ Gcm.en (Aes.turn k (Gcm.ctr nn 1)))) rfl rfl _ _ (LC _ hg9) elSz rfl (elOne _ _) ?_
                  intro WF hbF hsF
                  have hkF : Keep [g, C] w2 WF := (hg9.more (by simp)).trans' hsF (by simp)
                  replace hat := hat.keep hsF hne.out.2.2.2.2
                  clear hsF
                  apply hK
                  clear hK K
                  go_simp
                  refine wpAny_done (by kernel_rfl) ?_ _
                  exact hR.out _ _ ⟨rfl, rfl, by repeat (first | exact trivial | refine ⟨rfl, ?_⟩)⟩ hbF hat hkF
                exact AllReady.nil
              exact AllReady.nil
            exact AllReady.nil
          exact AllReady.nil
        refine AllReady.cons rfl (fun K hK => ?_) ?_
        ·
          apply step_wp
          · rfl
          refine ow_call _ _ _ (by kernel_rfl) (CU _ (LK _ hk6) (LA _ hk6)) ?_
          rintro e W7 ⟨rfl, hat, hs7⟩
          refine ⟨_, rfl, ?_⟩
          have hg7 : Keep [g] w2 W7 := hk6.more0.trans hs7
          clear hs7
          apply hK
          clear hK K
          go_simp
          refine wpAny_ready (rs := [0, 8]) (by kernel_rfl) (by simp) ?_
          refine AllReady.cons rfl (fun K hK => ?_) ?_
          ·
            apply step_wp
            · rfl
            refine ow_loadD _ _ rfl V rfl _ Try.underlying43 rfl _ _ (LV _ hg7) elSz ?_
            apply hK
            clear hK K
            go_simp
            refine wpAny_ready (rs := [8]) (by kernel_rfl) (by simp) ?_
            refine AllReady.cons rfl (fun K hK => ?_) ?_
            ·
              apply step_wp
              · rfl
              refine ow_call _ _ _ (by kernel_rfl) (CE _) ?_
              rintro e W8 ⟨rfl, hs8⟩
              refine ⟨_, rfl, ?_⟩
              have hg8 : Keep [g] w2 W8 := hg7.trans0 hs8
              replace hat := hat.keep hs8 (by simp)
              clear hs8
              apply hK
              clear hK K
              go_simp
              refine wpAny_ready (rs := [9]) (by kernel_rfl) (by simp) ?_
              refine AllReady.cons rfl (fun K hK => ?_) ?_
              ·
                apply step_wp
                · rfl
                refine ow_call _ _ _ (by kernel_rfl) (CP _) ?_
                rintro e W9 ⟨rfl, hs9⟩
                refine ⟨_, rfl, ?_⟩
                have hg9 : Keep [g] w2 W9 := hg8.trans0 hs9
                replace hat := hat.keep hs9 (by simp)
                clear hs9
                apply hK
                clear hK K
                go_simp
                refine wpAny_ready (rs := [10]) (by kernel_rfl) (by simp) ?_
                refine AllReady.cons rfl (fun K hK => ?_) ?_
                ·
                  apply step_wp
                  · rfl
                  refine ow_store _ _ _ rfl C (ec (n ^^^ Gcm.en (Aes.turn k (Gcm.ctr nn 1)))) rfl rfl _ _ (LC _ hg9) elSz rfl (elOne _ _) ?_
                  intro WF hbF hsF
                  have hkF : Keep [g, C] w2 WF := (hg9.more (by simp)).trans' hsF (by simp)
                  replace hat := hat.keep hsF hne.out.2.2.2.2
                  clear hsF
                  apply hK
                  clear hK K
                  go_simp
                  refine wpAny_done (by kernel_rfl) ?_ _
                  exact hR.out _ _ ⟨rfl, rfl, by repeat (first | exact trivial | refine ⟨rfl, ?_⟩)⟩ hbF hat hkF
                exact AllReady.nil
              exact AllReady.nil
            exact AllReady.nil
          refine AllReady.cons rfl (fun K hK => ?_) ?_
          ·
            apply step_wp
            · rfl
            refine ow_call _ _ _ (by kernel_rfl) (CE _) ?_
            rintro e W8 ⟨rfl, hs8⟩
            refine ⟨_, rfl, ?_⟩
            have hg8 : Keep [g] w2 W8 := hg7.trans0 hs8
            replace hat := hat.keep hs8 (by simp)
            clear hs8
            apply hK
            clear hK K
            go_simp
            refine wpAny_ready (rs := [0]) (by kernel_rfl) (by simp) ?_
            refine AllReady.cons rfl (fun K hK => ?_) ?_
            ·
              apply step_wp
              · rfl
              refine ow_loadD _ _ rfl V rfl _ Try.underlying43 rfl _ _ (LV _ hg8) elSz ?_
              apply hK
              clear hK K
              go_simp
              refine wpAny_ready (rs := [9]) (by kernel_rfl) (by simp) ?_
              refine AllReady.cons rfl (fun K hK => ?_) ?_
              ·
                apply step_wp
                · rfl
                refine ow_call _ _ _ (by kernel_rfl) (CP _) ?_
                rintro e W9 ⟨rfl, hs9⟩
                refine ⟨_, rfl, ?_⟩
                have hg9 : Keep [g] w2 W9 := hg8.trans0 hs9
                replace hat := hat.keep hs9 (by simp)
                clear hs9
                apply hK
                clear hK K
                go_simp
                refine wpAny_ready (rs := [10]) (by kernel_rfl) (by simp) ?_
                refine AllReady.cons rfl (fun K hK => ?_) ?_
                ·
                  apply step_wp
                  · rfl
                  refine ow_store _ _ _ rfl C (ec (n ^^^ Gcm.en (Aes.turn k (Gcm.ctr nn 1)))) rfl rfl _ _ (LC _ hg9) elSz rfl (elOne _ _) ?_
                  intro WF hbF hsF
                  have hkF : Keep [g, C] w2 WF := (hg9.more (by simp)).trans' hsF (by simp)
                  replace hat := hat.keep hsF hne.out.2.2.2.2
                  clear hsF
                  apply hK
                  clear hK K
                  go_simp
                  refine wpAny_done (by kernel_rfl) ?_ _
                  exact hR.out _ _ ⟨rfl, rfl, by repeat (first | exact trivial | refine ⟨rfl, ?_⟩)⟩ hbF hat hkF
                exact AllReady.nil
              exact AllReady.nil
            exact AllReady.nil
          exact AllReady.nil
        exact AllReady.nil
      exact AllReady.nil
    exact AllReady.nil
  refine AllReady.cons rfl (fun K hK => ?_) ?_
  ·
    apply step_wp
    · rfl
    refine ow_load _ _ rfl N rfl 12 5 Try.underlying25 _ D (LN _ hg0) (by rw [hD.out]; exact nonceCells') ?_
    apply hK
    clear hK K
    go_simp
    refine wpAny_ready (rs := [0, 4, 6]) (by kernel_rfl) (by simp) ?_
    refine AllReady.cons rfl (fun K hK => ?_) ?_
    ·
      apply step_wp
      · rfl
      refine ow_loadD _ _ rfl V rfl _ Try.underlying43 rfl _ _ (LV _ hg0) elSz ?_
      apply hK
      clear hK K
      go_simp
      refine wpAny_ready (rs := [4, 6]) (by kernel_rfl) (by simp) ?_
      refine AllReady.cons rfl (fun K hK => ?_) ?_
      ·
        apply step_wp
        · rfl
        have q := LS _ hg0
        refine ow_load1 _ _ rfl ⟨s, 0, none⟩ rfl (.pointer (some ⟨p, 0, none⟩)) (by simp [go_sem, q]) ?_
        clear q
        apply hK
        clear hK K
        go_simp
        refine wpAny_ready (rs := [6]) (by kernel_rfl) (by simp) ?_
        refine AllReady.cons rfl (fun K hK => ?_) ?_
        ·
          apply step_wp
          · rfl
          refine ow_call _ _ _ (by kernel_rfl) (CC _) ?_
          rintro e W6 ⟨rfl, hs6⟩
          refine ⟨_, rfl, ?_⟩
          have hk6 : Keep [] w2 W6 := hk0.trans hs6
          have hg6 : Keep [g] w2 W6 := hk6.more0
          clear hs6
          apply hK
          clear hK K
          go_simp
          refine wpAny_ready (rs := [7]) (by kernel_rfl) (by simp) ?_
          refine AllReady.cons rfl (fun K hK => ?_) ?_
          ·
            apply step_wp
            · rfl
            refine ow_call _ _ _ (by kernel_rfl) (CU _ (LK _ hk6) (LA _ hk6)) ?_
            rintro e W7 ⟨rfl, hat, hs7⟩
            refine ⟨_, rfl, ?_⟩
            have hg7 : Keep [g] w2 W7 := hk6.more0.trans hs7
            clear hs7
            apply hK
            clear hK K
            go_simp
            refine wpAny_ready (rs := [8]) (by kernel_rfl) (by simp) ?_
            refine AllReady.cons rfl (fun K hK => ?_) ?_
            ·
              apply step_wp
              · rfl
              refine ow_call _ _ _ (by kernel_rfl) (CE _) ?_
              rintro e W8 ⟨rfl, hs8⟩
              refine ⟨_, rfl, ?_⟩
              have hg8 : Keep [g] w2 W8 := hg7.trans0 hs8
              replace hat := hat.keep hs8 (by simp)
              clear hs8
              apply hK
              clear hK K
              go_simp
              refine wpAny_ready (rs := [9]) (by kernel_rfl) (by simp) ?_
              refine AllReady.cons rfl (fun K hK => ?_) ?_
              ·
                apply step_wp
                · rfl
                refine ow_call _ _ _ (by kernel_rfl) (CP _) ?_
                rintro e W9 ⟨rfl, hs9⟩
                refine ⟨_, rfl, ?_⟩
                have hg9 : Keep [g] w2 W9 := hg8.trans0 hs9
                replace hat := hat.keep hs9 (by simp)
                clear hs9
                apply hK
                clear hK K
                go_simp
                refine wpAny_ready (rs := [10]) (by kernel_rfl) (by simp) ?_
                refine AllReady.cons rfl (fun K hK => ?_) ?_
                ·
                  apply step_wp
                  · rfl
                  refine ow_store _ _ _ rfl C (ec (n ^^^ Gcm.en (Aes.turn k (Gcm.ctr nn 1)))) rfl rfl _ _ (LC _ hg9) elSz rfl (elOne _ _) ?_
                  intro WF hbF hsF
                  have hkF : Keep [g, C] w2 WF := (hg9.more (by simp)).trans' hsF (by simp)
                  replace hat := hat.keep hsF hne.out.2.2.2.2
                  clear hsF
                  apply hK
                  clear hK K
                  go_simp
                  refine wpAny_done (by kernel_rfl) ?_ _
                  exact hR.out _ _ ⟨rfl, rfl, by repeat (first | exact trivial | refine ⟨rfl, ?_⟩)⟩ hbF hat hkF
                exact AllReady.nil
              exact AllReady.nil
            exact AllReady.nil
          exact AllReady.nil
        exact AllReady.nil
      refine AllReady.cons rfl (fun K hK => ?_) ?_
      ·
        apply step_wp
        · rfl
        refine ow_call _ _ _ (by kernel_rfl) (CC _) ?_
        rintro e W6 ⟨rfl, hs6⟩
        refine ⟨_, rfl, ?_⟩
        have hk6 : Keep [] w2 W6 := hk0.trans hs6
        have hg6 : Keep [g] w2 W6 := hk6.more0
        clear hs6
        apply hK
        clear hK K
        go_simp
        refine wpAny_ready (rs := [4]) (by kernel_rfl) (by simp) ?_
        refine AllReady.cons rfl (fun K hK => ?_) ?_
        ·
          apply step_wp
          · rfl
          have q := LS _ hg6
          refine ow_load1 _ _ rfl ⟨s, 0, none⟩ rfl (.pointer (some ⟨p, 0, none⟩)) (by simp [go_sem, q]) ?_
          clear q
          apply hK
          clear hK K
          go_simp
          refine wpAny_ready (rs := [7]) (by kernel_rfl) (by simp) ?_
          refine AllReady.cons rfl (fun K hK => ?_) ?_
          ·
            apply step_wp
            · rfl
            refine ow_call _ _ _ (by kernel_rfl) (CU _ (LK _ hk6) (LA _ hk6)) ?_
            rintro e W7 ⟨rfl, hat, hs7⟩
            refine ⟨_, rfl, ?_⟩
            have hg7 : Keep [g] w2 W7 := hk6.more0.trans hs7
            clear hs7
            apply hK
            clear hK K
            go_simp
            refine wpAny_ready (rs := [8]) (by kernel_rfl) (by simp) ?_
            refine AllReady.cons rfl (fun K hK => ?_) ?_
            ·
              apply step_wp
              · rfl
              refine ow_call _ _ _ (by kernel_rfl) (CE _) ?_
              rintro e W8 ⟨rfl, hs8⟩
              refine ⟨_, rfl, ?_⟩
              have hg8 : Keep [g] w2 W8 := hg7.trans0 hs8
              replace hat := hat.keep hs8 (by simp)
              clear hs8
              apply hK
              clear hK K
              go_simp
              refine wpAny_ready (rs := [9]) (by kernel_rfl) (by simp) ?_
              refine AllReady.cons rfl (fun K hK => ?_) ?_
              ·
                apply step_wp
                · rfl
                refine ow_call _ _ _ (by kernel_rfl) (CP _) ?_
                rintro e W9 ⟨rfl, hs9⟩
                refine ⟨_, rfl, ?_⟩
                have hg9 : Keep [g] w2 W9 := hg8.trans0 hs9
                replace hat := hat.keep hs9 (by simp)
                clear hs9
                apply hK
                clear hK K
                go_simp
                refine wpAny_ready (rs := [10]) (by kernel_rfl) (by simp) ?_
                refine AllReady.cons rfl (fun K hK => ?_) ?_
                ·
                  apply step_wp
                  · rfl
                  refine ow_store _ _ _ rfl C (ec (n ^^^ Gcm.en (Aes.turn k (Gcm.ctr nn 1)))) rfl rfl _ _ (LC _ hg9) elSz rfl (elOne _ _) ?_
                  intro WF hbF hsF
                  have hkF : Keep [g, C] w2 WF := (hg9.more (by simp)).trans' hsF (by simp)
                  replace hat := hat.keep hsF hne.out.2.2.2.2
                  clear hsF
                  apply hK
                  clear hK K
                  go_simp
                  refine wpAny_done (by kernel_rfl) ?_ _
                  exact hR.out _ _ ⟨rfl, rfl, by repeat (first | exact trivial | refine ⟨rfl, ?_⟩)⟩ hbF hat hkF
                exact AllReady.nil
              exact AllReady.nil
            exact AllReady.nil
          exact AllReady.nil
        exact AllReady.nil
      exact AllReady.nil
    refine AllReady.cons rfl (fun K hK => ?_) ?_
    ·
      apply step_wp
      · rfl
      have q := LS _ hg0
      refine ow_load1 _ _ rfl ⟨s, 0, none⟩ rfl (.pointer (some ⟨p, 0, none⟩)) (by simp [go_sem, q]) ?_
      clear q
      apply hK
      clear hK K
      go_simp
      refine wpAny_ready (rs := [0, 6]) (by kernel_rfl) (by simp) ?_
      refine AllReady.cons rfl (fun K hK => ?_) ?_
      ·
        apply step_wp
        · rfl
        refine ow_loadD _ _ rfl V rfl _ Try.underlying43 rfl _ _ (LV _ hg0) elSz ?_
        apply hK
        clear hK K
        go_simp
        refine wpAny_ready (rs := [6]) (by kernel_rfl) (by simp) ?_
        refine AllReady.cons rfl (fun K hK => ?_) ?_
        ·
          apply step_wp
          · rfl
          refine ow_call _ _ _ (by kernel_rfl) (CC _) ?_
          rintro e W6 ⟨rfl, hs6⟩
          refine ⟨_, rfl, ?_⟩
          have hk6 : Keep [] w2 W6 := hk0.trans hs6
          have hg6 : Keep [g] w2 W6 := hk6.more0
          clear hs6
          apply hK
          clear hK K
          go_simp
          refine wpAny_ready (rs := [7]) (by kernel_rfl) (by simp) ?_
          refine AllReady.cons rfl (fun K hK => ?_) ?_
          ·
            apply step_wp
            · rfl
            refine ow_call _ _ _ (by kernel_rfl) (CU _ (LK _ hk6) (LA _ hk6)) ?_
            rintro e W7 ⟨rfl, hat, hs7⟩
            refine ⟨_, rfl, ?_⟩
            have hg7 : Keep [g] w2 W7 := hk6.more0.trans hs7
            clear hs7
            apply hK
            clear hK K
            go_simp
            refine wpAny_ready (rs := [8]) (by kernel_rfl) (by simp) ?_
            refine AllReady.cons rfl (fun K hK => ?_) ?_
            ·
              apply step_wp
              · rfl
              refine ow_call _ _ _ (by kernel_rfl) (CE _) ?_
              rintro e W8 ⟨rfl, hs8⟩
              refine ⟨_, rfl, ?_⟩
              have hg8 : Keep [g] w2 W8 := hg7.trans0 hs8
              replace hat := hat.keep hs8 (by simp)
              clear hs8
              apply hK
              clear hK K
              go_simp
              refine wpAny_ready (rs := [9]) (by kernel_rfl) (by simp) ?_
              refine AllReady.cons rfl (fun K hK => ?_) ?_
              ·
                apply step_wp
                · rfl
                refine ow_call _ _ _ (by kernel_rfl) (CP _) ?_
                rintro e W9 ⟨rfl, hs9⟩
                refine ⟨_, rfl, ?_⟩
                have hg9 : Keep [g] w2 W9 := hg8.trans0 hs9
                replace hat := hat.keep hs9 (by simp)
                clear hs9
                apply hK
                clear hK K
                go_simp
                refine wpAny_ready (rs := [10]) (by kernel_rfl) (by simp) ?_
                refine AllReady.cons rfl (fun K hK => ?_) ?_
                ·
                  apply step_wp
                  · rfl
                  refine ow_store _ _ _ rfl C (ec (n ^^^ Gcm.en (Aes.turn k (Gcm.ctr nn 1)))) rfl rfl _ _ (LC _ hg9) elSz rfl (elOne _ _) ?_
                  intro WF hbF hsF
                  have hkF : Keep [g, C] w2 WF := (hg9.more (by simp)).trans' hsF (by simp)
                  replace hat := hat.keep hsF hne.out.2.2.2.2
                  clear hsF
                  apply hK
                  clear hK K
                  go_simp
                  refine wpAny_done (by kernel_rfl) ?_ _
                  exact hR.out _ _ ⟨rfl, rfl, by repeat (first | exact trivial | refine ⟨rfl, ?_⟩)⟩ hbF hat hkF
                exact AllReady.nil
              exact AllReady.nil
            exact AllReady.nil
          exact AllReady.nil
        exact AllReady.nil
      refine AllReady.cons rfl (fun K hK => ?_) ?_
      ·
        apply step_wp
        · rfl
        refine ow_call _ _ _ (by kernel_rfl) (CC _) ?_
        rintro e W6 ⟨rfl, hs6⟩
        refine ⟨_, rfl, ?_⟩
        have hk6 : Keep [] w2 W6 := hk0.trans hs6
        have hg6 : Keep [g] w2 W6 := hk6.more0
        clear hs6
        apply hK
        clear hK K
        go_simp
        refine wpAny_ready (rs := [0, 7]) (by kernel_rfl) (by simp) ?_
        refine AllReady.cons rfl (fun K hK => ?_) ?_
        ·
          apply step_wp
          · rfl
          refine ow_loadD _ _ rfl V rfl _ Try.underlying43 rfl _ _ (LV _ hg6) elSz ?_
          apply hK
          clear hK K
          go_simp
          refine wpAny_ready (rs := [7]) (by kernel_rfl) (by simp) ?_
          refine AllReady.cons rfl (fun K hK => ?_) ?_
          ·
            apply step_wp
            · rfl
            refine ow_call _ _ _ (by kernel_rfl) (CU _ (LK _ hk6) (LA _ hk6)) ?_
            rintro e W7 ⟨rfl, hat, hs7⟩
            refine ⟨_, rfl, ?_⟩
            have hg7 : Keep [g] w2 W7 := hk6.more0.trans hs7
            clear hs7
            apply hK
            clear hK K
            go_simp
            refine wpAny_ready (rs := [8]) (by kernel_rfl) (by simp) ?_
            refine AllReady.cons rfl (fun K hK => ?_) ?_
            ·
              apply step_wp
              · rfl
              refine ow_call _ _ _ (by kernel_rfl) (CE _) ?_
              rintro e W8 ⟨rfl, hs8⟩
              refine ⟨_, rfl, ?_⟩
              have hg8 : Keep [g] w2 W8 := hg7.trans0 hs8
              replace hat := hat.keep hs8 (by simp)
              clear hs8
              apply hK
              clear hK K
              go_simp
              refine wpAny_ready (rs := [9]) (by kernel_rfl) (by simp) ?_
              refine AllReady.cons rfl (fun K hK => ?_) ?_
              ·
                apply step_wp
                · rfl
                refine ow_call _ _ _ (by kernel_rfl) (CP _) ?_
                rintro e W9 ⟨rfl, hs9⟩
                refine ⟨_, rfl, ?_⟩
                have hg9 : Keep [g] w2 W9 := hg8.trans0 hs9
                replace hat := hat.keep hs9 (by simp)
                clear hs9
                apply hK
                clear hK K
                go_simp
                refine wpAny_ready (rs := [10]) (by kernel_rfl) (by simp) ?_
                refine AllReady.cons rfl (fun K hK => ?_) ?_
                ·
                  apply step_wp
                  · rfl
                  refine ow_store _ _ _ rfl C (ec (n ^^^ Gcm.en (Aes.turn k (Gcm.ctr nn 1)))) rfl rfl _ _ (LC _ hg9) elSz rfl (elOne _ _) ?_
                  intro WF hbF hsF
                  have hkF : Keep [g, C] w2 WF := (hg9.more (by simp)).trans' hsF (by simp)
                  replace hat := hat.keep hsF hne.out.2.2.2.2
                  clear hsF
                  apply hK
                  clear hK K
                  go_simp
                  refine wpAny_done (by kernel_rfl) ?_ _
                  exact hR.out _ _ ⟨rfl, rfl, by repeat (first | exact trivial | refine ⟨rfl, ?_⟩)⟩ hbF hat hkF
                exact AllReady.nil
              exact AllReady.nil
            exact AllReady.nil
          exact AllReady.nil
        refine AllReady.cons rfl (fun K hK => ?_) ?_
        ·
          apply step_wp
          · rfl
          refine ow_call _ _ _ (by kernel_rfl) (CU _ (LK _ hk6) (LA _ hk6)) ?_
          rintro e W7 ⟨rfl, hat, hs7⟩
          refine ⟨_, rfl, ?_⟩
          have hg7 : Keep [g] w2 W7 := hk6.more0.trans hs7
          clear hs7
          apply hK
          clear hK K
          go_simp
          refine wpAny_ready (rs := [0, 8]) (by kernel_rfl) (by simp) ?_
          refine AllReady.cons rfl (fun K hK => ?_) ?_
          ·
            apply step_wp
            · rfl
            refine ow_loadD _ _ rfl V rfl _ Try.underlying43 rfl _ _ (LV _ hg7) elSz ?_
            apply hK
            clear hK K
            go_simp
            refine wpAny_ready (rs := [8]) (by kernel_rfl) (by simp) ?_
            refine AllReady.cons rfl (fun K hK => ?_) ?_
            ·
              apply step_wp
              · rfl
              refine ow_call _ _ _ (by kernel_rfl) (CE _) ?_
              rintro e W8 ⟨rfl, hs8⟩
              refine ⟨_, rfl, ?_⟩
              have hg8 : Keep [g] w2 W8 := hg7.trans0 hs8
              replace hat := hat.keep hs8 (by simp)
              clear hs8
              apply hK
              clear hK K
              go_simp
              refine wpAny_ready (rs := [9]) (by kernel_rfl) (by simp) ?_
              refine AllReady.cons rfl (fun K hK => ?_) ?_
              ·
                apply step_wp
                · rfl
                refine ow_call _ _ _ (by kernel_rfl) (CP _) ?_
                rintro e W9 ⟨rfl, hs9⟩
                refine ⟨_, rfl, ?_⟩
                have hg9 : Keep [g] w2 W9 := hg8.trans0 hs9
                replace hat := hat.keep hs9 (by simp)
                clear hs9
                apply hK
                clear hK K
                go_simp
                refine wpAny_ready (rs := [10]) (by kernel_rfl) (by simp) ?_
                refine AllReady.cons rfl (fun K hK => ?_) ?_
                ·
                  apply step_wp
                  · rfl
                  refine ow_store _ _ _ rfl C (ec (n ^^^ Gcm.en (Aes.turn k (Gcm.ctr nn 1)))) rfl rfl _ _ (LC _ hg9) elSz rfl (elOne _ _) ?_
                  intro WF hbF hsF
                  have hkF : Keep [g, C] w2 WF := (hg9.more (by simp)).trans' hsF (by simp)
                  replace hat := hat.keep hsF hne.out.2.2.2.2
                  clear hsF
                  apply hK
                  clear hK K
                  go_simp
                  refine wpAny_done (by kernel_rfl) ?_ _
                  exact hR.out _ _ ⟨rfl, rfl, by repeat (first | exact trivial | refine ⟨rfl, ?_⟩)⟩ hbF hat hkF
                exact AllReady.nil
              exact AllReady.nil
            exact AllReady.nil
          refine AllReady.cons rfl (fun K hK => ?_) ?_
          ·
            apply step_wp
            · rfl
            refine ow_call _ _ _ (by kernel_rfl) (CE _) ?_
            rintro e W8 ⟨rfl, hs8⟩
            refine ⟨_, rfl, ?_⟩
            have hg8 : Keep [g] w2 W8 := hg7.trans0 hs8
            replace hat := hat.keep hs8 (by simp)
            clear hs8
            apply hK
            clear hK K
            go_simp
            refine wpAny_ready (rs := [0]) (by kernel_rfl) (by simp) ?_
            refine AllReady.cons rfl (fun K hK => ?_) ?_
            ·
              apply step_wp
              · rfl
              refine ow_loadD _ _ rfl V rfl _ Try.underlying43 rfl _ _ (LV _ hg8) elSz ?_
              apply hK
              clear hK K
              go_simp
              refine wpAny_ready (rs := [9]) (by kernel_rfl) (by simp) ?_
              refine AllReady.cons rfl (fun K hK => ?_) ?_
              ·
                apply step_wp
                · rfl
                refine ow_call _ _ _ (by kernel_rfl) (CP _) ?_
                rintro e W9 ⟨rfl, hs9⟩
                refine ⟨_, rfl, ?_⟩
                have hg9 : Keep [g] w2 W9 := hg8.trans0 hs9
                replace hat := hat.keep hs9 (by simp)
                clear hs9
                apply hK
                clear hK K
                go_simp
                refine wpAny_ready (rs := [10]) (by kernel_rfl) (by simp) ?_
                refine AllReady.cons rfl (fun K hK => ?_) ?_
                ·
                  apply step_wp
                  · rfl
                  refine ow_store _ _ _ rfl C (ec (n ^^^ Gcm.en (Aes.turn k (Gcm.ctr nn 1)))) rfl rfl _ _ (LC _ hg9) elSz rfl (elOne _ _) ?_
                  intro WF hbF hsF
                  have hkF : Keep [g, C] w2 WF := (hg9.more (by simp)).trans' hsF (by simp)
                  replace hat := hat.keep hsF hne.out.2.2.2.2
                  clear hsF
                  apply hK
                  clear hK K
                  go_simp
                  refine wpAny_done (by kernel_rfl) ?_ _
                  exact hR.out _ _ ⟨rfl, rfl, by repeat (first | exact trivial | refine ⟨rfl, ?_⟩)⟩ hbF hat hkF
                exact AllReady.nil
              exact AllReady.nil
            exact AllReady.nil
          exact AllReady.nil
        exact AllReady.nil
      exact AllReady.nil
    refine AllReady.cons rfl (fun K hK => ?_) ?_
    ·
      apply step_wp
      · rfl
      refine ow_call _ _ _ (by kernel_rfl) (CC _) ?_
      rintro e W6 ⟨rfl, hs6⟩
      refine ⟨_, rfl, ?_⟩
      have hk6 : Keep [] w2 W6 := hk0.trans hs6
      have hg6 : Keep [g] w2 W6 := hk6.more0
      clear hs6
      apply hK
      clear hK K
      go_simp
      refine wpAny_ready (rs := [0, 4]) (by kernel_rfl) (by simp) ?_
      refine AllReady.cons rfl (fun K hK => ?_) ?_
      ·
        apply step_wp
        · rfl
        refine ow_loadD _ _ rfl V rfl _ Try.underlying43 rfl _ _ (LV _ hg6) elSz ?_
        apply hK
        clear hK K
        go_simp
        refine wpAny_ready (rs := [4]) (by kernel_rfl) (by simp) ?_
        refine AllReady.cons rfl (fun K hK => ?_) ?_
        ·
          apply step_wp
          · rfl
          have q := LS _ hg6
          refine ow_load1 _ _ rfl ⟨s, 0, none⟩ rfl (.pointer (some ⟨p, 0, none⟩)) (by simp [go_sem, q]) ?_
          clear q
          apply hK
          clear hK K
          go_simp
          refine wpAny_ready (rs := [7]) (by kernel_rfl) (by simp) ?_
          refine AllReady.cons rfl (fun K hK => ?_) ?_
          ·
            apply step_wp
            · rfl
            refine ow_call _ _ _ (by kernel_rfl) (CU _ (LK _ hk6) (LA _ hk6)) ?_
            rintro e W7 ⟨rfl, hat, hs7⟩
            refine ⟨_, rfl, ?_⟩
            have hg7 : Keep [g] w2 W7 := hk6.more0.trans hs7
            clear hs7
            apply hK
            clear hK K
            go_simp
            refine wpAny_ready (rs := [8]) (by kernel_rfl) (by simp) ?_
            refine AllReady.cons rfl (fun K hK => ?_) ?_
            ·
              apply step_wp
              · rfl
              refine ow_call _ _ _ (by kernel_rfl) (CE _) ?_
              rintro e W8 ⟨rfl, hs8⟩
              refine ⟨_, rfl, ?_⟩
              have hg8 : Keep [g] w2 W8 := hg7.trans0 hs8
              replace hat := hat.keep hs8 (by simp)
              clear hs8
              apply hK
              clear hK K
              go_simp
              refine wpAny_ready (rs := [9]) (by kernel_rfl) (by simp) ?_
              refine AllReady.cons rfl (fun K hK => ?_) ?_
              ·
                apply step_wp
                · rfl
                refine ow_call _ _ _ (by kernel_rfl) (CP _) ?_
                rintro e W9 ⟨rfl, hs9⟩
                refine ⟨_, rfl, ?_⟩
                have hg9 : Keep [g] w2 W9 := hg8.trans0 hs9
                replace hat := hat.keep hs9 (by simp)
                clear hs9
                apply hK
                clear hK K
                go_simp
                refine wpAny_ready (rs := [10]) (by kernel_rfl) (by simp) ?_
                refine AllReady.cons rfl (fun K hK => ?_) ?_
                ·
                  apply step_wp
                  · rfl
                  refine ow_store _ _ _ rfl C (ec (n ^^^ Gcm.en (Aes.turn k (Gcm.ctr nn 1)))) rfl rfl _ _ (LC _ hg9) elSz rfl (elOne _ _) ?_
                  intro WF hbF hsF
                  have hkF : Keep [g, C] w2 WF := (hg9.more (by simp)).trans' hsF (by simp)
                  replace hat := hat.keep hsF hne.out.2.2.2.2
                  clear hsF
                  apply hK
                  clear hK K
                  go_simp
                  refine wpAny_done (by kernel_rfl) ?_ _
                  exact hR.out _ _ ⟨rfl, rfl, by repeat (first | exact trivial | refine ⟨rfl, ?_⟩)⟩ hbF hat hkF
                exact AllReady.nil
              exact AllReady.nil
            exact AllReady.nil
          exact AllReady.nil
        exact AllReady.nil
      refine AllReady.cons rfl (fun K hK => ?_) ?_
      ·
        apply step_wp
        · rfl
        have q := LS _ hg6
        refine ow_load1 _ _ rfl ⟨s, 0, none⟩ rfl (.pointer (some ⟨p, 0, none⟩)) (by simp [go_sem, q]) ?_
        clear q
        apply hK
        clear hK K
        go_simp
        refine wpAny_ready (rs := [0, 7]) (by kernel_rfl) (by simp) ?_
        refine AllReady.cons rfl (fun K hK => ?_) ?_
        ·
          apply step_wp
          · rfl
          refine ow_loadD _ _ rfl V rfl _ Try.underlying43 rfl _ _ (LV _ hg6) elSz ?_
          apply hK
          clear hK K
          go_simp
          refine wpAny_ready (rs := [7]) (by kernel_rfl) (by simp) ?_
          refine AllReady.cons rfl (fun K hK => ?_) ?_
          ·
            apply step_wp
            · rfl
            refine ow_call _ _ _ (by kernel_rfl) (CU _ (LK _ hk6) (LA _ hk6)) ?_
            rintro e W7 ⟨rfl, hat, hs7⟩
            refine ⟨_, rfl, ?_⟩
            have hg7 : Keep [g] w2 W7 := hk6.more0.trans hs7
            clear hs7
            apply hK
            clear hK K
            go_simp
            refine wpAny_ready (rs := [8]) (by kernel_rfl) (by simp) ?_
            refine AllReady.cons rfl (fun K hK => ?_) ?_
            ·
              apply step_wp
              · rfl
              refine ow_call _ _ _ (by kernel_rfl) (CE _) ?_
              rintro e W8 ⟨rfl, hs8⟩
              refine ⟨_, rfl, ?_⟩
              have hg8 : Keep [g] w2 W8 := hg7.trans0 hs8
              replace hat := hat.keep hs8 (by simp)
              clear hs8
              apply hK
              clear hK K
              go_simp
              refine wpAny_ready (rs := [9]) (by kernel_rfl) (by simp) ?_
              refine AllReady.cons rfl (fun K hK => ?_) ?_
              ·
                apply step_wp
                · rfl
                refine ow_call _ _ _ (by kernel_rfl) (CP _) ?_
                rintro e W9 ⟨rfl, hs9⟩
                refine ⟨_, rfl, ?_⟩
                have hg9 : Keep [g] w2 W9 := hg8.trans0 hs9
                replace hat := hat.keep hs9 (by simp)
                clear hs9
                apply hK
                clear hK K
                go_simp
                refine wpAny_ready (rs := [10]) (by kernel_rfl) (by simp) ?_
                refine AllReady.cons rfl (fun K hK => ?_) ?_
                ·
                  apply step_wp
                  · rfl
                  refine ow_store _ _ _ rfl C (ec (n ^^^ Gcm.en (Aes.turn k (Gcm.ctr nn 1)))) rfl rfl _ _ (LC _ hg9) elSz rfl (elOne _ _) ?_
                  intro WF hbF hsF
                  have hkF : Keep [g, C] w2 WF := (hg9.more (by simp)).trans' hsF (by simp)
                  replace hat := hat.keep hsF hne.out.2.2.2.2
                  clear hsF
                  apply hK
                  clear hK K
                  go_simp
                  refine wpAny_done (by kernel_rfl) ?_ _
                  exact hR.out _ _ ⟨rfl, rfl, by repeat (first | exact trivial | refine ⟨rfl, ?_⟩)⟩ hbF hat hkF
                exact AllReady.nil
              exact AllReady.nil
            exact AllReady.nil
          exact AllReady.nil
        refine AllReady.cons rfl (fun K hK => ?_) ?_
        ·
          apply step_wp
          · rfl
          refine ow_call _ _ _ (by kernel_rfl) (CU _ (LK _ hk6) (LA _ hk6)) ?_
          rintro e W7 ⟨rfl, hat, hs7⟩
          refine ⟨_, rfl, ?_⟩
          have hg7 : Keep [g] w2 W7 := hk6.more0.trans hs7
          clear hs7
          apply hK
          clear hK K
          go_simp
          refine wpAny_ready (rs := [0, 8]) (by kernel_rfl) (by simp) ?_
          refine AllReady.cons rfl (fun K hK => ?_) ?_
          ·
            apply step_wp
            · rfl
            refine ow_loadD _ _ rfl V rfl _ Try.underlying43 rfl _ _ (LV _ hg7) elSz ?_
            apply hK
            clear hK K
            go_simp
            refine wpAny_ready (rs := [8]) (by kernel_rfl) (by simp) ?_
            refine AllReady.cons rfl (fun K hK => ?_) ?_
            ·
              apply step_wp
              · rfl
              refine ow_call _ _ _ (by kernel_rfl) (CE _) ?_
              rintro e W8 ⟨rfl, hs8⟩
              refine ⟨_, rfl, ?_⟩
              have hg8 : Keep [g] w2 W8 := hg7.trans0 hs8
              replace hat := hat.keep hs8 (by simp)
              clear hs8
              apply hK
              clear hK K
              go_simp
              refine wpAny_ready (rs := [9]) (by kernel_rfl) (by simp) ?_
              refine AllReady.cons rfl (fun K hK => ?_) ?_
              ·
                apply step_wp
                · rfl
                refine ow_call _ _ _ (by kernel_rfl) (CP _) ?_
                rintro e W9 ⟨rfl, hs9⟩
                refine ⟨_, rfl, ?_⟩
                have hg9 : Keep [g] w2 W9 := hg8.trans0 hs9
                replace hat := hat.keep hs9 (by simp)
                clear hs9
                apply hK
                clear hK K
                go_simp
                refine wpAny_ready (rs := [10]) (by kernel_rfl) (by simp) ?_
                refine AllReady.cons rfl (fun K hK => ?_) ?_
                ·
                  apply step_wp
                  · rfl
                  refine ow_store _ _ _ rfl C (ec (n ^^^ Gcm.en (Aes.turn k (Gcm.ctr nn 1)))) rfl rfl _ _ (LC _ hg9) elSz rfl (elOne _ _) ?_
                  intro WF hbF hsF
                  have hkF : Keep [g, C] w2 WF := (hg9.more (by simp)).trans' hsF (by simp)
                  replace hat := hat.keep hsF hne.out.2.2.2.2
                  clear hsF
                  apply hK
                  clear hK K
                  go_simp
                  refine wpAny_done (by kernel_rfl) ?_ _
                  exact hR.out _ _ ⟨rfl, rfl, by repeat (first | exact trivial | refine ⟨rfl, ?_⟩)⟩ hbF hat hkF
                exact AllReady.nil
              exact AllReady.nil
            exact AllReady.nil
          refine AllReady.cons rfl (fun K hK => ?_) ?_
          ·
            apply step_wp
            · rfl
            refine ow_call _ _ _ (by kernel_rfl) (CE _) ?_
            rintro e W8 ⟨rfl, hs8⟩
            refine ⟨_, rfl, ?_⟩
            have hg8 : Keep [g] w2 W8 := hg7.trans0 hs8
            replace hat := hat.keep hs8 (by simp)
            clear hs8
            apply hK
            clear hK K
            go_simp
            refine wpAny_ready (rs := [0]) (by kernel_rfl) (by simp) ?_
            refine AllReady.cons rfl (fun K hK => ?_) ?_
            ·
              apply step_wp
              · rfl
              refine ow_loadD _ _ rfl V rfl _ Try.underlying43 rfl _ _ (LV _ hg8) elSz ?_
              apply hK
              clear hK K
              go_simp
              refine wpAny_ready (rs := [9]) (by kernel_rfl) (by simp) ?_
              refine AllReady.cons rfl (fun K hK => ?_) ?_
              ·
                apply step_wp
                · rfl
                refine ow_call _ _ _ (by kernel_rfl) (CP _) ?_
                rintro e W9 ⟨rfl, hs9⟩
                refine ⟨_, rfl, ?_⟩
                have hg9 : Keep [g] w2 W9 := hg8.trans0 hs9
                replace hat := hat.keep hs9 (by simp)
                clear hs9
                apply hK
                clear hK K
                go_simp
                refine wpAny_ready (rs := [10]) (by kernel_rfl) (by simp) ?_
                refine AllReady.cons rfl (fun K hK => ?_) ?_
                ·
                  apply step_wp
                  · rfl
                  refine ow_store _ _ _ rfl C (ec (n ^^^ Gcm.en (Aes.turn k (Gcm.ctr nn 1)))) rfl rfl _ _ (LC _ hg9) elSz rfl (elOne _ _) ?_
                  intro WF hbF hsF
                  have hkF : Keep [g, C] w2 WF := (hg9.more (by simp)).trans' hsF (by simp)
                  replace hat := hat.keep hsF hne.out.2.2.2.2
                  clear hsF
                  apply hK
                  clear hK K
                  go_simp
                  refine wpAny_done (by kernel_rfl) ?_ _
                  exact hR.out _ _ ⟨rfl, rfl, by repeat (first | exact trivial | refine ⟨rfl, ?_⟩)⟩ hbF hat hkF
                exact AllReady.nil
              exact AllReady.nil
            exact AllReady.nil
          exact AllReady.nil
        exact AllReady.nil
      exact AllReady.nil
    exact AllReady.nil
  exact AllReady.nil
end Go.Proofs.Ytlkjngbelckgkaa
