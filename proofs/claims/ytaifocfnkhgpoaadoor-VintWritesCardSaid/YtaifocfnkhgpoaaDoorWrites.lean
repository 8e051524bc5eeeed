/-
  The law VintWrites.
-/
import Derived.Test.YtaifocfnkhgpoaaDoorWriter
import Derived.Test.YtaifocfnkhgpoaaDoorBytes
import Derived.RegionTactic
import Derived.BigRegion
namespace Go.Proofs.YtaifocfnkhgpoaaDoor
open Go.RowKit

def WSt (w : World) (B g : Nat) (v : Value) (P : List Int) : Prop :=
  (good P ∧ Wr w B g v (flat P)) ∨ (¬ good P ∧ v = .slice none 0 0 ∧ Blk w g 52 #[v, .int .i64 2])

theorem WSt.lt {w : World} {B g : Nat} {v : Value} {P : List Int} (h : WSt w B g v P) : ∀ k, v.ownBlock = some k → k < w.heap.size := by
  intro k hk
  rcases h with ⟨_, h⟩ | ⟨_, rfl, _⟩
  · exact (h.own.lt k hk).2
  · simp [Value.ownBlock] at hk
theorem WSt.keep {w w' : World} {B g : Nat} {v : Value} {P : List Int} {S : List Nat} (h : WSt w B g v P) (k : Keep S w w') (hg : g ∉ S) (hv : ∀ h, v.ownBlock = some h → h ∉ S) : WSt w' B g v P := by
  rcases h with ⟨h1, h2⟩ | ⟨h1, h2, h3⟩
  · exact .inl ⟨h1, h2.blk.keep k hg, own_keep h2.own k hv⟩
  · exact .inr ⟨h1, h2, h3.keep k hg⟩
theorem sl_keepB {k : IntKind} {w w' : World} {v : Value} {l : List Int} {S : List Nat} {B : Nat} (h : Sl k w v l) (hk : Keep S w w') (hS : ∀ g ∈ S, B ≤ g) (hb : 0 < l.length → ∀ h, v.ownBlock = some h → h < B) : Sl k w' v l :=
  h.keep hk fun hp g hg hm => by
    have := hb hp g hg
    have := hS g hm
    omega
theorem good_append {a b : List Int} : good (a ++ b) ↔ good a ∧ good b := by
  unfold good
  constructor
  · exact fun h => ⟨fun n hn => h n (by simp [hn]), fun n hn => h n (by simp [hn])⟩
  · rintro ⟨h1, h2⟩ n hn
    rcases List.mem_append.1 hn with h | h
    · exact h1 n h
    · exact h2 n h

theorem wInt_st {w : World} {B g : Nat} {v : Value} {P : List Int} (hW : WSt w B g v P) (hbase : B ≤ w.heap.size) (hT : Tabs w) (hb1 : 1 < B) (hg1 : 1 ≠ g) (u : Value) (l : List Int) (hu : Sl .u64 w u l)
    (hlim : P.length + l.length ≤ 10000) (hne : 0 < l.length → ∀ h, u.ownBlock = some h → h < B) (hgB : B ≤ g) :
    Calls Tryd.prog 32 #[.pointer (some ⟨g, 0, none⟩), u] w fun e w' => ∃ v', e = .returned (.tuple #[]) ∧ WSt w' B g v' (P ++ l) ∧ Keep (g :: v.ownBlock.toList) w w' ∧
      (v'.ownBlock = v.ownBlock ∨ ∀ h, v'.ownBlock = some h → w.heap.size ≤ h) := by
  rcases hW with ⟨hP, hW⟩ | ⟨hP, rfl, hB⟩
  · have hvb := hW.own.lt
    have hf := flat_length P
    refine (wInt_ok w hW hbase hT hb1 hg1 u l hu (by omega) (by
      intro hp h hh hm
      have hlt := hne hp h hh
      rcases List.mem_cons.1 hm with e | e
      · omega
      · have := hvb h (by simpa using e); omega)).mono ?_
    rintro e w' ⟨v', rfl, hk, hat, hs⟩
    refine ⟨v', rfl, ?_, hk, hat⟩
    rcases hs with ⟨h1, h2⟩ | ⟨h1, h2, h3⟩
    · exact .inl ⟨good_append.2 ⟨hP, h1⟩, by rw [flat_append]; exact h2⟩
    · exact .inr ⟨fun h => h1 (good_append.1 h).2, h2, h3⟩
  · refine (wInt_stopped w hB).mono ?_
    rintro e w' ⟨rfl, rfl⟩
    exact ⟨_, rfl, .inr ⟨fun h => hP (good_append.1 h).1, rfl, hB⟩, Keep.refl _ _, .inl rfl⟩

/-- What of l is written behind j parts. -/
def PP (l : List Int) (k j : Nat) : List Int := if j = 0 then [] else if j = 1 then l.take k else l

set_option maxRecDepth 100000 in
set_option maxHeartbeats 4000000 in
theorem vintWrites_main (v1 : Value) (l : List Int) (v2 : Value) (b : List Int) (cut : Int) (w : World) (ht : Tabs w) (h1 : Sl .u64 w v1 l) (h2 : Sl .u8 w v2 b) (hcut : (Lit.int .u8 cut).wf = true)
    (hl : l.length ≤ 40) (hb : b.length ≤ 300) :
    Calls Tryd.prog 6 #[v1, v2, .int .u8 cut] w fun e w' => e = .returned (.bool true) ∧ Keep [] w w' := by
  have A := Lib.hid (awake_any w ht)
  obtain ⟨c0, c1⟩ := wf_u8 hcut
  have H1 := Lib.hid h1
  have H2 := Lib.hid h2
  have HT := Lib.hid ht
  obtain ⟨A1, k1, rfl, hk1a, hk1b, _⟩ := h1
  obtain ⟨A2, k2, rfl, _⟩ := h2
  clear ht hcut
  go_enter Tryd.func6, Tryd.ntmps6
  go_wp2_with (go_at_call 8; with_reducible refine A.out.mono ?_; rintro e w1 ⟨rfl, hk1⟩)
  obtain ⟨k, hk⟩ : ∃ k : Nat, cut % ((l.length : Int) + 1) = k := ⟨(cut % ((l.length : Int) + 1)).toNat, by have := Int.emod_nonneg cut (show (l.length : Int) + 1 ≠ 0 by omega); omega⟩
  have hkl : k ≤ l.length := by have := Int.emod_lt_of_pos cut (show 0 < (l.length : Int) + 1 by omega); omega
  obtain ⟨B, hB⟩ : ∃ B, B = w1.heap.size := ⟨_, rfl⟩
  obtain ⟨W1, hW1⟩ : ∃ W1, W1 = (w1.alloc (.cells #[.slice none 0 0, .int .i64 0] 52)).alloc (.cells #[] 5) := ⟨_, rfl⟩
  have hblk : Blk W1 B 52 #[.slice none 0 0, .int .i64 0] := by rw [hW1, hB]; exact (Blk.new _ _ _).alloc _
  have hown : W1.ownsRow B 5 1 (.slice (some ⟨B + 1, 0, none⟩) 0 0) 0 [] := by
    have := own_of_blk (xs := []) (n := 0) (cap := 0) (Blk.new (w1.alloc (.cells #[.slice none 0 0, .int .i64 0] 52)) 5 #[]) rfl (Nat.le_refl _) (by omega) rfl
    have := own_base (base' := B) this (by simp; omega)
    rw [hW1]
    simp at this
    rw [← hB] at this
    exact this
  have hkW : Keep [] w W1 := by rw [hW1]; exact (hk1.alloc _).alloc _
  have hsB : w.heap.size ≤ B := by rw [hB]; exact hk1.size
  have hs1 : W1.heap.size = B + 2 := by rw [hW1, hB]; simp
  rw [hk, ← hW1, ← hB]
  have HBLK := Lib.hid hblk
  have HOWN := Lib.hid hown
  have HKW := Lib.hid hkW
  have HS1 := Lib.hid hs1
  clear hk hB hW1 hblk hown hkW hk1 hs1 A
  go_region
  obtain ⟨A3, hA3⟩ : ∃ A3, A3 = (if k1 = k then A1 else Option.map (fun x => x.add k) A1) := ⟨_, rfl⟩
  obtain ⟨W2, hW2⟩ : ∃ W2, W2 = (W1.alloc (.cells #[.slice A1 k k1, .slice A3 (l.length - k) (k1 - k)] 49)).drew := ⟨_, rfl⟩
  rw [← hA3, ← hW2, HS1.out]
  have hS0 := H1.out.take hkl
  have hS1 : Sl .u64 w (.slice A3 (l.length - k) (k1 - k)) (l.drop k) := H1.out.drop hkl (fun h => by rw [hA3, if_neg (by omega)])
  have hBP : Blk W2 (B + 2) 49 #[.slice A1 k k1, .slice A3 (l.length - k) (k1 - k)] := by
    rw [hW2, ← HS1.out]; exact (Blk.new _ _ _).drew
  have hk12 : Keep [] W1 W2 := by rw [hW2]; exact ((Keep.refl _ _).alloc _).drew
  have hs2 : W2.heap.size = B + 3 := by rw [hW2]; simp [HS1.out]
  have HBP := Lib.hid hBP
  have HS0 := Lib.hid hS0
  have HSd := Lib.hid hS1
  have HBLK2 := Lib.hid (HBLK.out.keep hk12 (by simp))
  have HOWN2 := Lib.hid (own_keep0 HOWN.out hk12)
  have HKW2 := Lib.hid (HKW.out.trans hk12)
  have HS2 := Lib.hid hs2
  clear hA3 hW2 hS0 hS1 hBP hk12 hs2 HBLK HOWN HKW HS1
  go_wp2_with fail
  go_loopw [8, 9, 45] (fun s8 s9 s45 wr => ∃ (j : Nat) (v : Value) (Y : List Int) (bad : Bool), j ≤ 2 ∧ s45 = .int .i64 j ∧ s9 = .bool bad ∧ WSt wr B B v (PP l k j) ∧
      wr.ownsRow B 5 1 s8 Y.length (Y.map (Value.int .u8)) ∧ (∀ x ∈ Y, (Lit.int .u8 x).wf = true) ∧ (bad = true ↔ ¬ good (PP l k j)) ∧ (good (PP l k j) → Y = flat (PP l k j)) ∧ Y.length ≤ 8 * (PP l k j).length ∧
      Keep [B, B + 1] W2 wr ∧ (∀ h, v.ownBlock = some h → B + 3 ≤ h) ∧ (∀ h, s8.ownBlock = some h → h = B + 1 ∨ B + 3 ≤ h) ∧ (∀ h, v.ownBlock = some h → s8.ownBlock ≠ some h)) (fun _ _ i _ => 2 - (intOf i).toNat)
  case atStart =>
    refine ⟨0, .slice none 0 0, [], false, by omega, rfl, rfl, .inl ⟨by simp [PP, good], HBLK2.out, World.ownsRow_nil _ _ _ _⟩, HOWN2.out, by simp, by simp [PP, good], by simp [PP, flat], by simp, Keep.refl _ _, by simp [Value.ownBlock], ?_, by simp [Value.ownBlock]⟩
    intro h hh
    left
    simpa [Value.ownBlock] using hh.symm
  case round =>
    obtain ⟨j, v, Y, bad, hj, rfl, rfl, hWS, hOY, hYw, hbad, hYf, hYl, hKr, hv3, hw3, hdis⟩ := hrel
    obtain ⟨wo, rfl⟩ : ∃ wo, wo = wr := ⟨_, rfl⟩
    have hsz := hKr.size
    rw [HS2.out] at hsz
    by_cases hlt : j < 2
    · obtain ⟨Ap, cp, tj, hcell, hSj, hPP, htl⟩ : ∃ (Ap : Option Addr) (cp : Nat) (tj : List Int), wo.cell? ⟨B + 2, j, none⟩ = some (.slice Ap tj.length cp) ∧ Sl .u64 w (.slice Ap tj.length cp) tj ∧ PP l k (j + 1) = PP l k j ++ tj ∧ (PP l k (j + 1)).length ≤ 40 := by
        have hB2 := HBP.out.keep hKr (by simp)
        rcases (show j = 0 ∨ j = 1 by omega) with rfl | rfl
        · refine ⟨A1, k1, l.take k, ?_, ?_, by simp [PP], by simp [PP]; omega⟩
          · rw [hB2.cell, List.length_take_of_le hkl]; rfl
          · rw [List.length_take_of_le hkl]; exact HS0.out
        · refine ⟨A3, k1 - k, l.drop k, ?_, ?_, by simp [PP], by simp [PP]; omega⟩
          · rw [hB2.cell, List.length_drop]; rfl
          · rw [List.length_drop]; exact HSd.out
      have htl' : tj.length ≤ 40 := by rw [hPP, List.length_append] at htl; omega
      have HTo : Tabs wo := (HT.out.keep HKW2.out (by simp)).keep hKr (by have := HT.out.lt; simp; omega)
      have hT1 := HT.out.lt
      have hSo : Sl .u64 wo (.slice Ap tj.length cp) tj := (hSj.keep0 HKW2.out).keep hKr (fun hp h hh => by have := hSj.lt hp h hh; simp; omega)
      have I := Lib.hid (wInt_st hWS (by omega) HTo (by omega) (by omega) _ tj hSo (by rw [hPP, List.length_append] at htl; omega) (fun hp h hh => by have := hSj.lt hp h hh; omega) (Nat.le_refl _))
      obtain ⟨vw, rfl⟩ : ∃ vw, vw = u8 := ⟨_, rfl⟩
      have hvwlt : ∀ h, vw.ownBlock = some h → h < wo.heap.size := fun h hh => (hOY.lt h hh).2
      have HOY := Lib.hid hOY
      have HYw := Lib.hid hYw
      have HBAD := Lib.hid hbad
      have HYF := Lib.hid hYf
      have HV3 := Lib.hid hv3
      have HW3 := Lib.hid hw3
      have HDIS := Lib.hid hdis
      have HLTV := Lib.hid hvwlt
      have HPP := Lib.hid hPP
      have HSO := Lib.hid hSo
      have HSJ := Lib.hid hSj
      have HVL := Lib.hid hWS.lt
      obtain ⟨Ptot, hPt⟩ : ∃ P, P = PP l k j := ⟨_, rfl⟩
      rw [← hPt] at HBAD HYF HPP I hYl
      have HPT := Lib.hid hPt
      clear hPt hOY hYw hbad hYf hv3 hw3 hdis hvwlt hPP hSo hWS hSj HTo htl
      have hq := fun (w : World) (a : Option Addr) (n c : Nat) => Lib.run_eql_slice_nil (P := Tryd.prog) w 23 5 a n c 0 0 Tryd.underlying23
      go_wp2_with (go_at_call 32; go_loud (with_reducible refine I.out.mono ?_); rintro e w3 ⟨v', rfl, hWS3, hk3, hat3⟩; have HWS3 := Lib.hid hWS3; have HAT3 := Lib.hid hat3; clear hWS3 hat3)
      have hsz3 := hk3.size
      have hownw3 : w3.ownsRow B 5 1 vw Y.length (Y.map (Value.int .u8)) := own_keep HOY.out hk3 (fun h hh hm => by
        rcases List.mem_cons.1 hm with e | e
        · rcases HW3.out h hh with e1 | e1 <;> omega
        · exact HDIS.out h (by simpa using e) hh)
      have HOW3 := Lib.hid hownw3
      clear hownw3
      go_loopw [8, 9, 54] (fun s8 s9 s54 wr => ∃ (i : Nat), i ≤ tj.length ∧ s54 = .int .i64 i ∧ s9 = .bool bad ∧ good (tj.take i) ∧ wr.ownsRow B 5 1 s8 (Y ++ flat (tj.take i)).length ((Y ++ flat (tj.take i)).map (Value.int .u8)) ∧
        Keep vw.ownBlock.toList w3 wr ∧ (s8.ownBlock = vw.ownBlock ∨ ∀ h, s8.ownBlock = some h → w3.heap.size ≤ h)) (fun _ _ i _ => tj.length - (intOf i).toNat)
      case atStart => exact ⟨0, by omega, rfl, rfl, by simp [good], by simpa [flat] using HOW3.out, Keep.refl _ _, .inl rfl⟩
      case round =>
        obtain ⟨i, hi, rfl, rfl, hgi, hOi, hki, hati⟩ := hrel
        obtain ⟨wi, rfl⟩ : ∃ wi, wi = wr := ⟨_, rfl⟩
        obtain ⟨vi, rfl⟩ : ∃ vi, vi = u8 := ⟨_, rfl⟩
        have hszi := hki.size
        -- the outer round's end, from here
        have close : ∀ (bad' : Bool), (bad' = true ↔ ¬ good (PP l k (j + 1))) → (good (PP l k (j + 1)) → i = tj.length) →
            WSt wi B B v' (PP l k (j + 1)) ∧ wi.ownsRow B 5 1 vi (Y ++ flat (tj.take i)).length ((Y ++ flat (tj.take i)).map (Value.int .u8)) ∧ (∀ x ∈ Y ++ flat (tj.take i), (Lit.int .u8 x).wf = true) ∧
            (bad' = true ↔ ¬ good (PP l k (j + 1))) ∧ (good (PP l k (j + 1)) → Y ++ flat (tj.take i) = flat (PP l k (j + 1))) ∧ (Y ++ flat (tj.take i)).length ≤ 8 * (PP l k (j + 1)).length ∧
            Keep [B, B + 1] W2 wi ∧ (∀ h, v'.ownBlock = some h → B + 3 ≤ h) ∧ (∀ h, vi.ownBlock = some h → h = B + 1 ∨ B + 3 ≤ h) ∧ (∀ h, v'.ownBlock = some h → vi.ownBlock ≠ some h) := by
          intro bad' hb' hgt
          have hv'3 : ∀ h, v'.ownBlock = some h → B + 3 ≤ h := fun h hh => by
            rcases HAT3.out with e | e
            · exact HV3.out h (by rw [← e]; exact hh)
            · have := e h hh; omega
          have hv'w : ∀ h, v'.ownBlock = some h → vw.ownBlock ≠ some h := fun h hh hw => by
            rcases HAT3.out with e | e
            · exact HDIS.out h (by rw [← e]; exact hh) hw
            · have := e h hh
              have := HLTV.out h hw
              omega
          have hBw : B ∉ vw.ownBlock.toList := fun hm => by
            rcases HW3.out B (by simpa using hm) with e1 | e1 <;> omega
          have hfl := flat_length (tj.take i)
          rw [List.length_take_of_le hi] at hfl
          refine ⟨?_, hOi, ?_, hb', ?_, ?_, ?_, hv'3, ?_, ?_⟩
          · rw [HPP.out]
            exact HWS3.out.keep hki hBw (fun h hh hm => hv'w h hh (by simpa using hm))
          · intro x hx
            rcases List.mem_append.1 hx with h | h
            · exact HYw.out x h
            · obtain ⟨n, _, hn⟩ := List.mem_flatMap.1 h
              exact enc_wf _ _ x hn
          · intro hg
            rw [hgt hg, List.take_length, HPP.out, flat_append, HYF.out (by rw [HPP.out] at hg; exact (good_append.1 hg).1)]
          · rw [HPP.out, List.length_append, List.length_append]
            omega
          · refine (hKr.trans' hk3 ?_).trans' hki ?_
            · intro h hh
              rcases List.mem_cons.1 hh with e | e
              · left; simp [e]
              · right; have := HV3.out h (by simpa using e); rw [HS2.out]; omega
            · intro h hh
              rcases HW3.out h (by simpa using hh) with e | e
              · left; simp [e]
              · right; rw [HS2.out]; omega
          · intro h hh
            rcases hati with e | e
            · exact HW3.out h (by rw [← e]; exact hh)
            · right; have := e h hh; omega
          · intro h hh hi'
            rcases hati with e | e
            · exact hv'w h hh (by rw [← e]; exact hi')
            · have := e h hi'
              have := HWS3.out.lt h hh
              omega
        have CL := Lib.hid close
        clear close
        have HOI := Lib.hid hOi
        have HGI := Lib.hid hgi
        clear hOi hgi
        by_cases hil : i < tj.length
        · have hblk : ∀ h, (Value.slice Ap tj.length cp).ownBlock = some h → h ∉ B :: v.ownBlock.toList ∧ h ∉ vw.ownBlock.toList := fun h hh => by
            have hlt := HSJ.out.lt (by omega) h hh
            refine ⟨fun hm => ?_, fun hm => ?_⟩
            · rcases List.mem_cons.1 hm with e | e
              · omega
              · have := HV3.out h (by simpa using e); omega
            · rcases HW3.out h (by simpa using hm) with e | e <;> omega
          have hSi : Sl .u64 wi (.slice Ap tj.length cp) tj := (HSO.out.keep hk3 (fun _ h hh => (hblk h hh).1)).keep hki (fun _ h hh => (hblk h hh).2)
          obtain ⟨bb, off, c', e', _, _, hcells⟩ := hSi.cells (by omega)
          simp only [Value.slice.injEq, true_and] at e'
          obtain ⟨rfl, rfl⟩ := e'
          have hcelli := hcells i hil
          have hwf := wf_u64 (wf_getD hSi.wf i hil)
          have hts := take_snoc_getD hil
          have hx0 : 0 ≤ tj[i]?.getD 0 := hwf.1
          have hx1 : tj[i]?.getD 0 ≤ 18446744073709551615 := hwf.2
          have hmem : tj[i]?.getD 0 ∈ tj := by rw [List.getElem?_eq_getElem hil]; exact List.getElem_mem hil
          generalize tj[i]?.getD 0 = x at *
          have HTS := Lib.hid hts
          have HMEM := Lib.hid hmem
          clear hcells hwf hts hmem hSi hblk hcell
          by_cases hv0 : vlen x = 0
          · have R := Lib.hid (rput_no x wi hv0)
            have HV0 := Lib.hid hv0
            clear hv0
            go_wp2_with (go_at_call 12; with_reducible refine R.out.mono ?_; rintro e w' ⟨rfl, rfl⟩)
            go_roundw
            case rel =>
              have hng : ¬ good (PP l k (j + 1)) := fun h => by
                rw [HPP.out] at h
                exact (good_append.1 h).2 x HMEM.out HV0.out
              obtain ⟨c1, c2, c3, c4, c5, c6, c7, c8, c9, c10⟩ := CL.out true (by simp [hng]) (fun h => absurd h hng)
              exact ⟨j + 1, v', _, true, by omega, by go_num, rfl, c1, c2, c3, c4, c5, c6, c7, c8, c9, c10⟩
            case measure => simp [intOf]; omega
          · have R := Lib.hid (rput_yes x wi hv0 hx0 hx1)
            have hvr := vlen_range x
            obtain ⟨s, hs⟩ : ∃ s : Nat, vlen x = s := ⟨(vlen x).toNat, by omega⟩
            have hs8 : s ≤ 8 := by omega
            rw [hs, Int.toNat_natCast] at R
            have HV0 := Lib.hid hv0
            have HS := Lib.hid hs
            have hZl : (Y ++ flat (tj.take i)).length ≤ 10000 := by
              have h1 := flat_length (tj.take i)
              rw [List.length_take_of_le hi] at h1
              have h2 := congrArg List.length HPT.out
              have h3 : (PP l k j).length ≤ 40 := by
                unfold PP
                split
                · simp
                · split
                  · rw [List.length_take]; omega
                  · exact hl
              rw [List.length_append]
              omega
            clear hv0 hs
            obtain ⟨Z, hZ⟩ : ∃ Z, Z = Y ++ flat (tj.take i) := ⟨_, rfl⟩
            rw [← hZ] at HOI hZl
            have HZ := Lib.hid hZ
            clear hZ
            go_wp2_with (first
              | (go_at_call 12; with_reducible refine R.out.mono ?_; rintro e wx ⟨vx, rfl, hnx, hox, hkx⟩; obtain ⟨gx, cx, rfl⟩ := own_form hox hnx; have HOX := Lib.hid hox; clear hox hnx)
              | (at_builtin; refine wl_append _ rfl (.tmp 62) (.tmp 63) _ rfl B 5 (.int .u8 0) 1 1 Tryd.underlying23 u8info rfl (by decide) vi Z.length _ rfl (own_keep0 HOI.out hkx) (some ⟨gx, 0, none⟩) s cx ((enc x s).map (Value.int .u8)) rfl ?a2 ?a3 (ints_one _ _) ?a4 ?a5 ?a6 ?_; rotate_right; intro vn wn hon hkn hatn; have HON := Lib.hid hon; clear hon))
            case a2 => simp [enc_length]
            case a3 => exact Rd.of_own HOX.out
            case a4 => simp only [maxLen]; omega
            case a5 => omega
            case a6 => have := hkx.size; omega
            go_roundw
            case rel =>
              have hsx := hkx.size
              refine ⟨i + 1, by omega, by go_num, rfl, by rw [HTS.out]; exact good_snoc HGI.out HV0.out, ?_, ?_, ?_⟩
              · rw [HTS.out, flat_snoc, ← List.append_assoc, ← HZ.out, HS.out, Int.toNat_natCast, List.length_append, enc_length, List.map_append]
                exact HON.out
              · refine (hki.trans0 hkx).trans' hkn ?_
                intro h hh
                rcases hati with e | e
                · left; rw [← e]; exact hh
                · right; exact e h (by simpa using hh)
              · rcases hatn with e | e
                · rw [e]; exact hati
                · right
                  intro h hh
                  rw [e] at hh
                  obtain rfl := Option.some.inj hh
                  omega
            case measure => simp [intOf]; omega
        · have hie : i = tj.length := by omega
          subst hie
          clear hcell
          go_wp2
          go_roundw
          case rel =>
            have hgt : good tj := by have := HGI.out; rwa [List.take_length] at this
            have hb' : bad = true ↔ ¬ good (PP l k (j + 1)) := by rw [HBAD.out, HPP.out, good_append]; simp [hgt]
            obtain ⟨c1, c2, c3, c4, c5, c6, c7, c8, c9, c10⟩ := CL.out bad hb' (fun _ => rfl)
            exact ⟨j + 1, v', _, bad, by omega, by go_num, rfl, c1, c2, c3, c4, c5, c6, c7, c8, c9, c10⟩
          case measure => simp [intOf]; omega
    · have hj2 : j = 2 := by omega
      subst hj2
      have hPP2 : PP l k 2 = l := by simp [PP]
      rw [hPP2] at hWS hbad hYf hYl
      have hT1 := HT.out.lt
      have hbB : 0 < b.length → ∀ h, (Value.slice A2 b.length k2).ownBlock = some h → h < B := fun hp h hh => by have := H2.out.lt hp h hh; omega
      have hSb : Sl .u8 wo (.slice A2 b.length k2) b := sl_keepB (H2.out.keep0 HKW2.out) hKr (by simp) hbB
      have hTo : Tabs wo := (HT.out.keep HKW2.out (by simp)).keep hKr (by simp; omega)
      have hvwlt : ∀ h, u8.ownBlock = some h → h < wo.heap.size := fun h hh => (hOY.lt h hh).2
      have hLv : vlen b.length ≠ 0 := by unfold vlen; repeat' split <;> omega
      have hLr := vlen_range b.length
      obtain ⟨s, hs⟩ : ∃ s : Nat, vlen b.length = s := ⟨(vlen b.length).toNat, by omega⟩
      have hs8 : s ≤ 8 := by omega
      have hKw : Keep [] w wo := HKW2.out.trans' hKr (by intro h hh; right; simp at hh; omega)
      have R := fun W => rput_yes b.length W hLv (by omega) (by omega)
      rw [hs, Int.toNat_natCast] at R
      obtain ⟨vw, rfl⟩ : ∃ vw, vw = u8 := ⟨_, rfl⟩
      have HB1 := Lib.hid hbB
      have HLV := Lib.hid hvwlt
      have HOY := Lib.hid hOY
      have HYw := Lib.hid hYw
      have HV3 := Lib.hid hv3
      have HW3 := Lib.hid hw3
      have HDIS := Lib.hid hdis
      have HS := Lib.hid hs
      have HKw := Lib.hid hKw
      have HR := Lib.hid R
      have hq := fun (w : World) (a : Option Addr) (n c : Nat) => Lib.run_eql_slice_nil (P := Tryd.prog) w 23 5 a n c 0 0 Tryd.underlying23
      by_cases hg : good l
      · have hbf : bad = false := by cases bad <;> simp_all
        subst hbf
        have hWr : Wr wo B B v (flat l) := by
          rcases hWS with ⟨_, h⟩ | ⟨h, _⟩
          · exact h
          · exact absurd hg h
        have hfl := flat_length l
        have hY := hYf hg
        have HY := Lib.hid hY
        clear hbB hvwlt hOY hYw hv3 hw3 hdis hs hKw R hY hbad hYf hWS
        go_wp2_with fail
        refine (wLong_ok wo hWr (by omega) hTo (by omega) (by omega) _ b hSb (by omega) (fun hp h hh hm => by
          have h1 := HB1.out hp h hh
          rcases List.mem_cons.1 hm with e | e
          · omega
          · have := HV3.out h (by simpa using e); omega)).mono ?_
        rintro e w4 ⟨v4, rfl, hW4, hk4, hat4⟩
        rw [HS.out, Int.toNat_natCast] at hW4
        have hSB4 : ∀ g ∈ B :: v.ownBlock.toList, B ≤ g := fun g hg => by
          rcases List.mem_cons.1 hg with e | e
          · omega
          · have := HV3.out g (by simpa using e); omega
        have hSb4 := sl_keepB hSb hk4 hSB4 HB1.out
        have hsz4 := hk4.size
        have hel : (enc b.length s).length = s := enc_length _ _
        have hX4 : (flat l ++ enc b.length s ++ b).length ≤ 1000 := by simp only [List.length_append]; omega
        obtain ⟨X4, hXe⟩ : ∃ X, X = flat l ++ enc b.length s ++ b := ⟨_, rfl⟩
        rw [← hXe] at hW4 hX4
        have HXE := Lib.hid hXe
        have HW4 := Lib.hid hW4
        clear hWr hW4 hXe hSb hel
        go_wp2_with fail
        refine (wBytes_ok w4 HW4.out (by omega) _ b hSb4 (by omega)).mono ?_
        rintro e w5 ⟨v5, rfl, hW5, hk5, hat5⟩
        have hv4B : ∀ h, v4.ownBlock = some h → B + 3 ≤ h := fun h hh => by
          rcases hat4 with e | e
          · exact HV3.out h (by rw [← e]; exact hh)
          · have := e h hh; omega
        have hSB5 : ∀ g ∈ B :: v4.ownBlock.toList, B ≤ g := fun g hg => by
          rcases List.mem_cons.1 hg with e | e
          · omega
          · have := hv4B g (by simpa using e); omega
        have hSb5 := sl_keepB hSb4 hk5 hSB5 HB1.out
        have hsz5 := hk5.size
        have hv4w : ∀ h, v4.ownBlock = some h → vw.ownBlock ≠ some h := fun h hh hw => by
          rcases hat4 with e | e
          · exact HDIS.out h (by rw [← e]; exact hh) hw
          · have := e h hh
            have := HLV.out h hw
            omega
        have hv5w : ∀ h, v5.ownBlock = some h → vw.ownBlock ≠ some h := fun h hh hw => by
          rcases hat5 with e | e
          · exact hv4w h (by rw [← e]; exact hh) hw
          · have := e h hh
            have := HLV.out h hw
            omega
        have hwB : ∀ h, vw.ownBlock = some h → h ≠ B := fun h hh => by rcases HW3.out h hh with e | e <;> omega
        have hOw5 : w5.ownsRow B 5 1 vw Y.length (Y.map (Value.int .u8)) := own_keep (own_keep HOY.out hk4 (fun h hh hm => by
          rcases List.mem_cons.1 hm with e | e
          · exact hwB h hh e
          · exact HDIS.out h (by simpa using e) hh)) hk5 (fun h hh hm => by
          rcases List.mem_cons.1 hm with e | e
          · exact hwB h hh e
          · exact hv4w h (by simpa using e) hh)
        have hK5 : Keep [] w w5 := (HKw.out.trans' hk4 (fun g hg => .inr (by have := hSB4 g hg; omega))).trans' hk5 (fun g hg => .inr (by have := hSB5 g hg; omega))
        have HW5 := Lib.hid hW5
        have HOW5 := Lib.hid hOw5
        have HK5 := Lib.hid hK5
        have HSB5 := Lib.hid hSb5
        have HV5W := Lib.hid hv5w
        have HWB := Lib.hid hwB
        have HV5L := Lib.hid hW5.own.lt
        clear hW5 hOw5 hK5 hSb5 hv5w hwB hSb4 hv4w hv4B hSB5 hSB4 hat4 hat5 hk4 hk5 HW4
        go_wp2_with fail
        refine (HR.out w5).mono ?_
        rintro e w6 ⟨vx, rfl, hnx, hox, hk6⟩
        obtain ⟨gx, cx, rfl⟩ := own_form hox hnx
        have HOX := Lib.hid hox
        have hsz6 := hk6.size
        have HSB6 := Lib.hid (HSB5.out.keep0 hk6)
        have HOW6 := Lib.hid (own_keep0 HOW5.out hk6)
        clear hox hnx
        go_wp2_with (first
          | (at_builtin; refine wl_append _ rfl (.tmp 73) (.tmp 77) _ rfl B 5 (.int .u8 0) 1 1 Tryd.underlying23 u8info rfl (by decide) vw Y.length _ rfl HOW6.out (some ⟨gx, 0, none⟩) s cx ((enc b.length s).map (Value.int .u8)) rfl ?a2 (Rd.of_own HOX.out) (ints_one _ _) ?a4 ?a5 ?a6 ?_; rotate_right; intro v7 w7 ho7 hk7 hat7; have HO7 := Lib.hid ho7; have HAT7 := Lib.hid hat7; clear ho7 hat7)
          | (at_builtin; refine wl_append _ rfl (.tmp 78) (.tmp 79) _ rfl B 5 (.int .u8 0) 1 1 Tryd.underlying23 u8info rfl (by decide) v7 (Y.length + s) _ rfl HO7.out A2 b.length k2 (b.map (Value.int .u8)) rfl ?b2 ?b3 (ints_one _ _) ?b4 ?b5 ?b6 ?_; rotate_right; intro v8 w8 ho8 hk8 hat8; have HO8 := Lib.hid ho8; have HAT8 := Lib.hid hat8; clear ho8 hat8)
          | (at_builtin; refine wl_append _ rfl (.tmp 80) (.tmp 81) _ rfl B 5 (.int .u8 0) 1 1 Tryd.underlying23 u8info rfl (by decide) v8 (Y.length + s + b.length) _ rfl HO8.out A2 b.length k2 (b.map (Value.int .u8)) rfl ?d2 ?d3 (ints_one _ _) ?d4 ?d5 ?d6 ?_; rotate_right; intro v9 w9 ho9 hk9 hat9; have HO9 := Lib.hid ho9; have HAT9 := Lib.hid hat9; clear ho9 hat9))
        case a2 => simp [enc_length]
        case a4 => simp only [maxLen]; omega
        case a5 => omega
        case a6 => omega
        case b2 => simp
        case b3 => exact (sl_keepB HSB6.out hk7 (fun g hg => by rcases HW3.out g (by simpa using hg) with e | e <;> omega) HB1.out).rd
        case b4 => simp only [maxLen]; omega
        case b5 => omega
        case b6 => have := hk7.size; omega
        case d2 => simp
        case d3 =>
          have hS7 := sl_keepB HSB6.out hk7 (fun g hg => by rcases HW3.out g (by simpa using hg) with e | e <;> omega) HB1.out
          refine (sl_keepB hS7 hk8 (fun g hg => ?_) HB1.out).rd
          rcases HAT7.out with e | e
          · rw [e] at hg; rcases HW3.out g (by simpa using hg) with e | e <;> omega
          · rw [e] at hg; simp at hg; omega
        case d4 => simp only [maxLen]; omega
        case d5 => omega
        case d6 => have := hk7.size; have := hk8.size; omega
        have hsz7 := hk7.size
        have hsz8 := hk8.size
        -- what the three appends may have turned
        have hw7 : ∀ h, v7.ownBlock = some h → (vw.ownBlock = some h ∨ w6.heap.size ≤ h) := fun h hh => by
          rcases HAT7.out with e | e
          · exact .inl (by rw [← e]; exact hh)
          · rw [e] at hh; obtain rfl := Option.some.inj hh; exact .inr (Nat.le_refl _)
        have hw8 : ∀ h, v8.ownBlock = some h → (vw.ownBlock = some h ∨ w6.heap.size ≤ h) := fun h hh => by
          rcases HAT8.out with e | e
          · exact hw7 h (by rw [← e]; exact hh)
          · rw [e] at hh; obtain rfl := Option.some.inj hh; exact .inr (by omega)
        have hk69 : Keep vw.ownBlock.toList w6 w9 := (hk7.trans' hk8 (fun g hg => by
            rcases hw7 g (by simpa using hg) with e | e
            · left; simpa using e
            · exact .inr e)).trans' hk9 (fun g hg => by
            rcases hw8 g (by simpa using hg) with e | e
            · left; simpa using e
            · exact .inr e)
        have hW9 : Wr w9 B B v5 (X4 ++ b) := ⟨(HW5.out.blk.keep hk6 (by simp)).keep hk69 (fun hm => HWB.out B (by simpa using hm) rfl),
          own_keep (own_keep0 HW5.out.own hk6) hk69 (fun h hh hm => HV5W.out h hh (by simpa using hm))⟩
        have hK9 : Keep [] w w9 := (HK5.out.trans hk6).trans' hk69 (fun g hg => .inr (by rcases HW3.out g (by simpa using hg) with e | e <;> omega))
        have hXwf : ∀ x ∈ X4 ++ b, (Lit.int .u8 x).wf = true := by
          intro x hx
          rw [HXE.out] at hx
          simp only [List.mem_append] at hx
          rcases hx with ((h | h) | h) | h
          · obtain ⟨n, _, hn⟩ := List.mem_flatMap.1 h
            exact enc_wf _ _ x hn
          · exact enc_wf _ _ x h
          · exact H2.out.wf x h
          · exact H2.out.wf x h
        have hXl : (X4 ++ b).length ≤ 1000000 := by rw [List.length_append]; omega
        have HK9 := Lib.hid hK9
        have HXWF := Lib.hid hXwf
        have HWANT : Hid (Sl .u8 w9 v9 (X4 ++ b)) := by
          refine Lib.hid (Sl.of_own (base := B) (e := 5) (n := Y.length + s + b.length + b.length) ?_ hXwf)
          have := HO9.out
          rw [← HY.out] at HXE
          rw [HXE.out]
          simpa using this
        clear hk69 hw7 hw8 hK9 hXwf hk7 hk8 hk9 HO7 HO8 HO9 HAT7 HAT8 HAT9
        refine (wDone_ok w9 hW9 hXl HXWF.out).mono ?_
        rintro e w10 ⟨v10, rfl, ho10, hk10⟩
        obtain ⟨t, ht⟩ : ∃ t, t = bstr (X4 ++ b) := ⟨_, rfl⟩
        have hc1 := run_bytes_str (P := Tryd.prog) (Sl.of_own ho10 HXWF.out) Tryd.underlying23 Tryd.underlying5 Tryd.underlying9
        have hc2 := run_bytes_str (P := Tryd.prog) (HWANT.out.keep0 hk10) Tryd.underlying23 Tryd.underlying5 Tryd.underlying9
        rw [← ht] at hc1 hc2
        have C1 := Lib.hid hc1
        have C2 := Lib.hid hc2
        have HKF := Lib.hid (HK9.out.trans hk10)
        clear hc1 hc2 ht ho10 hk10 hW9
        go_wp2_with (first
          | (with_reducible refine wl_conv rfl 23 9 (.tmp 99) rfl v10 _ rfl C1.out ?_)
          | (with_reducible refine wl_conv rfl 23 9 (.tmp 101) rfl v9 _ rfl C2.out ?_))
        go_ret
        exact ⟨rfl, HKF.out⟩
      · have hbt : bad = true := hbad.2 hg
        subst hbt
        have hBl : Blk wo B 52 #[v, .int .i64 2] := by
          rcases hWS with ⟨h, _⟩ | ⟨_, _, h⟩
          · exact absurd h hg
          · exact h
        have hYl2 : Y.length ≤ 1000 := by omega
        clear hbB hvwlt hOY hYw hv3 hw3 hdis hs hKw R hbad hYf hWS hg
        go_wp2_with fail
        refine (wLong_stopped wo hBl A2 b.length k2 (by omega)).mono ?_
        rintro e w4 ⟨rfl, hB4, hk4⟩
        have HB4 := Lib.hid hB4
        have hSb4 := hSb.keep0 hk4
        have hsz4 := hk4.size
        clear hBl hB4 hSb
        go_wp2_with fail
        refine (wBytes_stopped w4 HB4.out).mono ?_
        rintro e w5 ⟨rfl, rfl⟩
        have hwB : ∀ h, vw.ownBlock = some h → h ≠ B := fun h hh => by rcases HW3.out h hh with e | e <;> omega
        have HOW5 := Lib.hid (own_keep0 HOY.out hk4)
        have HK5 := Lib.hid (HKw.out.trans hk4)
        have HSB5 := Lib.hid hSb4
        have HWB := Lib.hid hwB
        clear hSb4 hwB
        go_wp2_with fail
        refine (HR.out w4).mono ?_
        rintro e w6 ⟨vx, rfl, hnx, hox, hk6⟩
        obtain ⟨gx, cx, rfl⟩ := own_form hox hnx
        have HOX := Lib.hid hox
        have hsz6 := hk6.size
        have HSB6 := Lib.hid (HSB5.out.keep0 hk6)
        have HOW6 := Lib.hid (own_keep0 HOW5.out hk6)
        clear hox hnx
        go_wp2_with (first
          | (at_builtin; refine wl_append _ rfl (.tmp 73) (.tmp 77) _ rfl B 5 (.int .u8 0) 1 1 Tryd.underlying23 u8info rfl (by decide) vw Y.length _ rfl HOW6.out (some ⟨gx, 0, none⟩) s cx ((enc b.length s).map (Value.int .u8)) rfl ?a2 (Rd.of_own HOX.out) (ints_one _ _) ?a4 ?a5 ?a6 ?_; rotate_right; intro v7 w7 ho7 hk7 hat7; have HO7 := Lib.hid ho7; have HAT7 := Lib.hid hat7; clear ho7 hat7)
          | (at_builtin; refine wl_append _ rfl (.tmp 78) (.tmp 79) _ rfl B 5 (.int .u8 0) 1 1 Tryd.underlying23 u8info rfl (by decide) v7 (Y.length + s) _ rfl HO7.out A2 b.length k2 (b.map (Value.int .u8)) rfl ?b2 ?b3 (ints_one _ _) ?b4 ?b5 ?b6 ?_; rotate_right; intro v8 w8 ho8 hk8 hat8; have HO8 := Lib.hid ho8; have HAT8 := Lib.hid hat8; clear ho8 hat8)
          | (at_builtin; refine wl_append _ rfl (.tmp 80) (.tmp 81) _ rfl B 5 (.int .u8 0) 1 1 Tryd.underlying23 u8info rfl (by decide) v8 (Y.length + s + b.length) _ rfl HO8.out A2 b.length k2 (b.map (Value.int .u8)) rfl ?d2 ?d3 (ints_one _ _) ?d4 ?d5 ?d6 ?_; rotate_right; intro v9 w9 ho9 hk9 hat9; have HO9 := Lib.hid ho9; have HAT9 := Lib.hid hat9; clear ho9 hat9))
        case a2 => simp [enc_length]
        case a4 => simp only [maxLen]; omega
        case a5 => omega
        case a6 => omega
        case b2 => simp
        case b3 => exact (sl_keepB HSB6.out hk7 (fun g hg => by rcases HW3.out g (by simpa using hg) with e | e <;> omega) HB1.out).rd
        case b4 => simp only [maxLen]; omega
        case b5 => omega
        case b6 => have := hk7.size; omega
        case d2 => simp
        case d3 =>
          have hS7 := sl_keepB HSB6.out hk7 (fun g hg => by rcases HW3.out g (by simpa using hg) with e | e <;> omega) HB1.out
          refine (sl_keepB hS7 hk8 (fun g hg => ?_) HB1.out).rd
          rcases HAT7.out with e | e
          · rw [e] at hg; rcases HW3.out g (by simpa using hg) with e | e <;> omega
          · rw [e] at hg; simp at hg; omega
        case d4 => simp only [maxLen]; omega
        case d5 => omega
        case d6 => have := hk7.size; have := hk8.size; omega
        have hsz7 := hk7.size
        have hsz8 := hk8.size
        have hw7 : ∀ h, v7.ownBlock = some h → (vw.ownBlock = some h ∨ w6.heap.size ≤ h) := fun h hh => by
          rcases HAT7.out with e | e
          · exact .inl (by rw [← e]; exact hh)
          · rw [e] at hh; obtain rfl := Option.some.inj hh; exact .inr (Nat.le_refl _)
        have hw8 : ∀ h, v8.ownBlock = some h → (vw.ownBlock = some h ∨ w6.heap.size ≤ h) := fun h hh => by
          rcases HAT8.out with e | e
          · exact hw7 h (by rw [← e]; exact hh)
          · rw [e] at hh; obtain rfl := Option.some.inj hh; exact .inr (by omega)
        have hk69 : Keep vw.ownBlock.toList w6 w9 := (hk7.trans' hk8 (fun g hg => by
            rcases hw7 g (by simpa using hg) with e | e
            · left; simpa using e
            · exact .inr e)).trans' hk9 (fun g hg => by
            rcases hw8 g (by simpa using hg) with e | e
            · left; simpa using e
            · exact .inr e)
        have hB9 : Blk w9 B 52 #[v, .int .i64 2] := (HB4.out.keep hk6 (by simp)).keep hk69 (fun hm => HWB.out B (by simpa using hm) rfl)
        have hK9 : Keep [] w w9 := (HK5.out.trans hk6).trans' hk69 (fun g hg => .inr (by rcases HW3.out g (by simpa using hg) with e | e <;> omega))
        have HK9 := Lib.hid hK9
        clear hk69 hw7 hw8 hK9 hk7 hk8 hk9 HO7 HO8 HO9 HAT7 HAT8 HAT9
        refine (wDone_stopped w9 hB9).mono ?_
        rintro e w10 ⟨rfl, hk10⟩
        have HKF := Lib.hid (HK9.out.trans hk10)
        clear hB9 hk10
        go_wp2
        go_ret
        exact ⟨rfl, HKF.out⟩

set_option maxRecDepth 100000 in
set_option maxHeartbeats 1000000 in
theorem vintWrites_long (v1 : Value) (l : List Int) (v2 : Value) (b : List Int) (cut : Int) (w : World) (ht : Tabs w) (h1 : Sl .u64 w v1 l) (h2 : Sl .u8 w v2 b)
    (hl : 40 < l.length ∨ 300 < b.length) :
    Calls Tryd.prog 6 #[v1, v2, .int .u8 cut] w fun e w' => e = .returned (.bool true) ∧ Keep [] w w' := by
  have A := Lib.hid (awake_any w ht)
  obtain ⟨A2, c2, rfl, _⟩ := h1
  obtain ⟨A3, c3, rfl, _⟩ := h2
  generalize l.length = m2 at *
  generalize b.length = m3 at *
  clear ht
  by_cases h1 : 40 < m2
  · clear hl
    go_enter Tryd.func6, Tryd.ntmps6
    go_wp2_with (go_at_call 8; with_reducible refine A.out.mono ?_; rintro e w1 ⟨rfl, hk1⟩)
    go_ret
    exact ⟨rfl, hk1⟩
  · have h3 : 300 < m3 := by omega
    clear hl
    go_enter Tryd.func6, Tryd.ntmps6
    go_wp2_with (go_at_call 8; with_reducible refine A.out.mono ?_; rintro e w1 ⟨rfl, hk1⟩)
    go_ret
    exact ⟨rfl, hk1⟩

theorem vintWrites_walk (v1 : Value) (l : List Int) (v2 : Value) (b : List Int) (cut : Int) (w : World) (ht : Tabs w) (h1 : Sl .u64 w v1 l) (h2 : Sl .u8 w v2 b) (hcut : (Lit.int .u8 cut).wf = true) :
    Calls Tryd.prog 6 #[v1, v2, .int .u8 cut] w fun e w' => e = .returned (.bool true) ∧ Keep [] w w' := by
  by_cases hl : 40 < l.length ∨ 300 < b.length
  · exact vintWrites_long v1 l v2 b cut w ht h1 h2 hl
  · exact vintWrites_main v1 l v2 b cut w ht h1 h2 hcut (by omega) (by omega)

end Go.Proofs.YtaifocfnkhgpoaaDoor
