/-
  Contracts of the Writer's methods and of bytes.Clone.
-/
import Derived.Test.YtaifocfnkhgpoaaDoorWide
import Derived.BigQuiet
namespace Go.Proofs.YtaifocfnkhgpoaaDoor
open Go.RowKit

/-- All of them have an encoding. -/
def good (l : List Int) : Prop := ∀ n ∈ l, vlen n ≠ 0
/-- Their encodings, one behind the other. -/
def flat (l : List Int) : List Int := l.flatMap fun n => enc n (vlen n).toNat
theorem enc_length' (n : Int) (s : Nat) : (enc n s).length = s := bb_length _ _
theorem flat_snoc (l : List Int) (n : Int) : flat (l ++ [n]) = flat l ++ enc n (vlen n).toNat := by simp [flat]
theorem flat_append (a b : List Int) : flat (a ++ b) = flat a ++ flat b := by simp [flat]
theorem flat_length (l : List Int) : (flat l).length ≤ 8 * l.length := by
  induction l with
  | nil => simp [flat]
  | cons n l ih =>
    have := vlen_range n
    simp only [flat, List.flatMap_cons, List.length_append, List.length_cons, enc_length'] at ih ⊢
    omega
theorem good_snoc {l : List Int} {n : Int} (h : good l) (hn : vlen n ≠ 0) : good (l ++ [n]) := by
  intro x hx
  rcases List.mem_append.1 hx with h1 | h1
  · exact h x h1
  · rw [List.mem_singleton.1 h1]; exact hn
theorem take_snoc_getD {l : List Int} {j : Nat} (h : j < l.length) : l.take (j + 1) = l.take j ++ [l[j]?.getD 0] := by
  rw [List.take_add_one, List.getElem?_eq_getElem h]; rfl

/-- The Writer's cells. -/
structure Wr (w : World) (base g : Nat) (v : Value) (X : List Int) : Prop where
  blk : Blk w g 52 #[v, .int .i64 0]
  own : w.ownsRow base 5 1 v X.length (X.map (Value.int .u8))

section
variable (w : World)
set_option maxHeartbeats 400000
theorem stopped_no {g : Nat} {v : Value} (hB : Blk w g 52 #[v, .int .i64 0]) :
    Calls Tryd.prog 42 #[.pointer (some ⟨g, 0, none⟩)] w fun e w' => e = .returned (.bool false) ∧ w = w' := by
  have hc : w.cell? ⟨g, 1, none⟩ = some (.int .i64 0) := hB.cell 1
  clear hB
  go_enter Tryd.func42, Tryd.ntmps42
  go_wp2
  go_ret
  exact ⟨rfl, rfl⟩
theorem stopped_yes {g : Nat} {v : Value} (hB : Blk w g 52 #[v, .int .i64 2]) :
    Calls Tryd.prog 42 #[.pointer (some ⟨g, 0, none⟩)] w fun e w' => e = .returned (.bool true) ∧ w = w' := by
  have hc : w.cell? ⟨g, 1, none⟩ = some (.int .i64 2) := hB.cell 1
  clear hB
  go_enter Tryd.func42, Tryd.ntmps42
  go_wp2
  go_ret
  exact ⟨rfl, rfl⟩
theorem wInt_stopped {g : Nat} {v u : Value} (hB : Blk w g 52 #[v, .int .i64 2]) :
    Calls Tryd.prog 32 #[.pointer (some ⟨g, 0, none⟩), u] w fun e w' => e = .returned (.tuple #[]) ∧ w = w' := by
  have H := Lib.hid (stopped_yes w hB)
  clear hB
  go_enter Tryd.func32, Tryd.ntmps32
  go_wp2_with (go_at_call 42; with_reducible refine H.out.mono ?_; rintro e w' ⟨rfl, rfl⟩)
  refine bodyPost_ret (results_none rfl _ _ _) rfl ?_
  exact ⟨rfl, rfl⟩
theorem wBytes_stopped {g : Nat} {v u : Value} (hB : Blk w g 52 #[v, .int .i64 2]) :
    Calls Tryd.prog 34 #[.pointer (some ⟨g, 0, none⟩), u] w fun e w' => e = .returned (.tuple #[]) ∧ w = w' := by
  have H := Lib.hid (stopped_yes w hB)
  clear hB
  go_enter Tryd.func34, Tryd.ntmps34
  go_wp2_with (go_at_call 42; with_reducible refine H.out.mono ?_; rintro e w' ⟨rfl, rfl⟩)
  refine bodyPost_ret (results_none rfl _ _ _) rfl ?_
  exact ⟨rfl, rfl⟩
theorem wLong_stopped {g : Nat} {v : Value} (hB : Blk w g 52 #[v, .int .i64 2]) (A : Option Addr) (n c : Nat) (hn : n ≤ 9223372036854775807) :
    Calls Tryd.prog 33 #[.pointer (some ⟨g, 0, none⟩), .slice A n c] w fun e w' => e = .returned (.tuple #[]) ∧ Blk w' g 52 #[v, .int .i64 2] ∧ Keep [] w w' := by
  have HB := Lib.hid hB
  clear hB
  go_enter Tryd.func33, Tryd.ntmps33
  go_wp2_with (first | (go_at_call 32; refine (wInt_stopped _ (HB.out.alloc _)).mono ?_; rintro e w' ⟨rfl, rfl⟩) | (go_at_call 34; refine (wBytes_stopped _ (HB.out.alloc _)).mono ?_; rintro e w' ⟨rfl, rfl⟩))
  go_end0
  exact ⟨rfl, HB.out.alloc _, (Keep.refl _ _).alloc _⟩

/-- bytes.Clone. -/
theorem clone_any (v : Value) (l : List Int) (hv : Sl .u8 w v l) (hl : l.length ≤ 1000000) :
    Calls Tryd.prog 39 #[v] w fun e w' => ∃ v', e = .returned v' ∧ w'.ownsRow w.heap.size 5 1 v' l.length (l.map (Value.int .u8)) ∧ Keep [] w w' := by
  have hq := fun (w : World) (a : Option Addr) (n c : Nat) => Lib.run_eql_slice_nil (P := Tryd.prog) w 23 5 a n c 0 0 Tryd.underlying23
  obtain ⟨A, c, rfl, h1, h2, h3, h4⟩ := hv
  cases A with
  | none =>
    have hl0 : l = [] := by
      rcases Nat.eq_zero_or_pos l.length with h0 | h0
      · exact List.eq_nil_of_length_eq_zero h0
      · obtain ⟨_, _, he, _⟩ := h3 (by simpa using h0)
        cases he
    subst hl0
    clear h1 h3 h4
    go_enter Tryd.func39, Tryd.ntmps39
    go_wp2
    go_ret
    exact ⟨_, rfl, World.ownsRow_nil _ _ _ _, Keep.refl _ _⟩
  | some a =>
    have H3 := Lib.hid h3
    clear h3 h4
    go_enter Tryd.func39, Tryd.ntmps39
    go_wp2_with (at_builtin; refine wl_append _ rfl (.tmp 5) (.tmp 6) _ rfl w.heap.size 5 (.int .u8 0) 1 1 Tryd.underlying23 u8info rfl (by decide) (.slice (some ⟨w.heap.size, 0, none⟩) 0 0) 0 [] rfl (own_of_blk (Blk.new _ _ _) rfl (Nat.le_refl _) (by omega) rfl) (some a) l.length c (l.map (Value.int .u8)) rfl ?a2 ?a3 (ints_one _ _) ?a4 ?a5 ?a6 ?_; rotate_right; intro v5 w5 ho5 hk5 hat5; have HO5 := Lib.hid ho5; clear ho5)
    case a2 => simp
    case a3 => exact H3.out.keep0 ((Keep.refl _ _).alloc _)
    case a4 => simp only [maxLen]; omega
    case a5 => omega
    case a6 => simp
    go_ret
    exact ⟨_, rfl, by simpa using HO5.out, ((Keep.refl _ _).alloc _).trans' hk5 (by intro g hg; right; simp [Value.ownBlock] at hg; omega)⟩

theorem wBytes_ok {base g : Nat} {v : Value} {X : List Int} (hW : Wr w base g v X) (hbase : base ≤ w.heap.size) (u : Value) (l : List Int) (hu : Sl .u8 w u l) (hl : X.length + l.length ≤ 1000000) :
    Calls Tryd.prog 34 #[.pointer (some ⟨g, 0, none⟩), u] w fun e w' => ∃ v', e = .returned (.tuple #[]) ∧ Wr w' base g v' (X ++ l) ∧ Keep (g :: v.ownBlock.toList) w w' ∧
      (v'.ownBlock = v.ownBlock ∨ ∀ h, v'.ownBlock = some h → w.heap.size ≤ h) := by
  have H := Lib.hid (stopped_no w hW.blk)
  have hc0 : w.cell? ⟨g, 0, none⟩ = some v := hW.blk.cell 0
  have hgl := hW.blk.lt
  obtain ⟨A, c, rfl⟩ := own_slice hW.own
  obtain ⟨A2, c2, rfl, h1, h2, h3, h4⟩ := hu
  have H3 := Lib.hid h3
  have HW := Lib.hid hW
  clear hW h3 h4
  go_enter Tryd.func34, Tryd.ntmps34
  go_wp2_with (first
    | (go_at_call 42; with_reducible refine H.out.mono ?_; rintro e w' ⟨rfl, rfl⟩)
    | (at_builtin; refine wl_append _ rfl (.tmp 10) (.tmp 11) _ rfl base 5 (.int .u8 0) 1 1 Tryd.underlying23 u8info rfl (by decide) (.slice A X.length c) X.length _ rfl HW.out.own A2 l.length c2 (l.map (Value.int .u8)) rfl ?a2 H3.out (ints_one _ _) ?a4 ?a5 hbase ?_; rotate_right; intro v5 w5 ho5 hk5 hat5; have HO5 := Lib.hid ho5; clear ho5; obtain ⟨A5, c5, rfl⟩ := own_slice HO5.out; have hB5 := HW.out.blk.keep hk5 (fun hm => own_ne_blk HW.out.own HW.out.blk (by decide) (by simpa using hm)); have hc5 := hB5.cell 0; have hf5 := hB5.frozen 0; simp at hc5; have HB5 := Lib.hid hB5; clear hB5))
  case a2 => simp
  case a4 => simp only [maxLen]; omega
  case a5 => omega
  go_end0
  refine ⟨.slice A5 (X.length + l.length) c5, rfl, ⟨?_, ?_⟩, ?_, ?_⟩
  · have := HB5.out.set_ 0 (.slice A5 (X.length + l.length) c5)
    simpa using this
  · have hne := own_ne_blk HO5.out HB5.out (by decide)
    have := own_keep HO5.out (S := [g]) ((Keep.refl _ w5).setCell (p := ⟨g, 0, none⟩) (.inl (by simp)) (.slice A5 (X.length + l.length) c5)) (fun h hh hm => hne (by rw [hh]; simpa using hm))
    simpa using this
  · refine (hk5.more fun h hh => .inl (by simp; exact .inr (by simpa using hh))).setCell (.inl (by simp)) _
  · rcases hat5 with e | e
    · exact .inl e
    · exact .inr fun h hh => by rw [e] at hh; injection hh with hh; omega

set_option maxHeartbeats 1000000 in
theorem wInt_ok {base g : Nat} {v : Value} {X : List Int} (hW : Wr w base g v X) (hbase : base ≤ w.heap.size) (hT : Tabs w) (hb1 : 1 < base) (hg1 : 1 ≠ g) (u : Value) (l : List Int) (hu : Sl .u64 w u l)
    (hlim : X.length + 8 * l.length ≤ 1000000) (hne : 0 < l.length → ∀ h, u.ownBlock = some h → h ∉ g :: v.ownBlock.toList) :
    Calls Tryd.prog 32 #[.pointer (some ⟨g, 0, none⟩), u] w fun e w' => ∃ v', e = .returned (.tuple #[]) ∧ Keep (g :: v.ownBlock.toList) w w' ∧
      (v'.ownBlock = v.ownBlock ∨ ∀ h, v'.ownBlock = some h → w.heap.size ≤ h) ∧
      ((good l ∧ Wr w' base g v' (X ++ flat l)) ∨ (¬ good l ∧ v' = .slice none 0 0 ∧ Blk w' g 52 #[v', .int .i64 2])) := by
  have H := Lib.hid (stopped_no w hW.blk)
  have HU := Lib.hid hu
  have HT := Lib.hid hT
  have HW := Lib.hid hW
  have HNE := Lib.hid hne
  have hvb := Lib.hid hW.own.lt
  obtain ⟨A2, c2, rfl, h1, h2, _⟩ := hu
  clear hW hT hne
  go_enter Tryd.func32, Tryd.ntmps32
  go_wp2_with (go_at_call 42; with_reducible refine H.out.mono ?_; rintro e w' ⟨rfl, rfl⟩)
  go_loopw [11] (fun i wr => ∃ (j : Nat) (v' : Value), j ≤ l.length ∧ i = .int .i64 j ∧ good (l.take j) ∧ Wr wr base g v' (X ++ flat (l.take j)) ∧ Keep (g :: v.ownBlock.toList) w wr ∧
      (v'.ownBlock = v.ownBlock ∨ ∀ h, v'.ownBlock = some h → w.heap.size ≤ h)) (fun i _ => l.length - (intOf i).toNat)
  case atStart => exact ⟨0, v, by omega, rfl, by simp [good], by simpa [flat] using HW.out, Keep.refl _ _, .inl rfl⟩
  case round =>
    obtain ⟨j, v', hj, rfl, hgood, hWr, hkr, hat⟩ := hrel
    have hsz := hkr.size
    by_cases hlt : j < l.length
    · have hU2 : Sl .u64 wr (.slice A2 l.length c2) l := HU.out.keep hkr HNE.out
      obtain ⟨b, off, c', e', _, _, hcells⟩ := hU2.cells (by omega)
      simp only [Value.slice.injEq, true_and] at e'
      obtain ⟨rfl, rfl⟩ := e'
      have hcell := hcells j hlt
      have hwf := wf_u64 (wf_getD hU2.wf j hlt)
      have hts := take_snoc_getD hlt
      have hx0 : 0 ≤ l[j]?.getD 0 := hwf.1
      generalize l[j]?.getD 0 = x at *
      have HTS := Lib.hid hts
      have HG := Lib.hid hgood
      have HR := Lib.hid hWr
      have L := Lib.hid (len_any x wr)
      clear hcells hwf hts hgood hU2
      by_cases hv0 : vlen x = 0
      · rw [hv0] at L
        have HV0 := Lib.hid hv0
        have hc0 : wr.cell? ⟨g, 0, none⟩ = some v' := hWr.blk.cell 0
        have hc1 : wr.cell? ⟨g, 1, none⟩ = some (.int .i64 0) := hWr.blk.cell 1
        have hf0 := hWr.blk.frozen 0
        have hf1 := hWr.blk.frozen 1
        clear hWr hv0
        go_wp2_with (go_at_call 9; with_reducible refine L.out.mono ?_; rintro e w' ⟨rfl, rfl⟩)
        try simp only [Exit.inBlock, Exit.then]
        refine bodyPost_ret (results_none rfl _ _ _) rfl ?_
        refine ⟨.slice none 0 0, rfl, (hkr.setCell (.inl (by simp)) _).setCell (.inl (by simp)) _, .inr (by simp [Value.ownBlock]), .inr ⟨?_, rfl, ?_⟩⟩
        · intro hg
          refine hg x ?_ HV0.out
          have : x ∈ l.take (j + 1) := by rw [HTS.out]; simp
          exact List.mem_of_mem_take this
        · have := (HR.out.blk.set_ 1 (.int .i64 2)).set_ 0 (.slice none 0 0)
          simpa using this
      · have hvr := vlen_range x
        have hF := fits_least hv0
        obtain ⟨s, hs⟩ : ∃ s : Nat, vlen x = s := ⟨(vlen x).toNat, by omega⟩
        rw [hs] at hF L hv0
        have hs0 : (s : Int) ≠ 0 := hv0
        have hsb : ((s : Int) == 0) = false := by simpa using hv0
        obtain ⟨kk, hkk, hxs⟩ := fits_of hF hx0
        have HKK := Lib.hid hkk
        have HXS := Lib.hid hxs
        have HS := Lib.hid hs
        have hs8 : s ≤ 8 := by omega
        obtain ⟨A', c'', rfl⟩ := own_slice hWr.own
        have hXl : (X ++ flat (l.take j)).length ≤ 1000000 := by
          have := flat_length (l.take j)
          rw [List.length_append]
          rw [List.length_take_of_le (by omega)] at this
          omega
        have hc0 := hWr.blk.cell 0
        simp at hc0
        have HT2 := Lib.hid (HT.out.keep hkr (by
          simp only [List.mem_cons, not_or]
          refine ⟨hg1, fun hm => ?_⟩
          have := hvb.out 1 (by simpa using hm)
          omega))
        clear hWr hv0 hs0 hs hxs hkk hF
        obtain ⟨Y, hY⟩ : ∃ Y, Y = X ++ flat (l.take j) := ⟨_, rfl⟩
        rw [← List.length_append, ← hY] at hc0
        rw [← hY] at HR hXl hat
        have HY := Lib.hid hY
        clear hY
        go_wp2_with (go_at_call 9; with_reducible refine L.out.mono ?_; rintro e w' ⟨rfl, rfl⟩)
        refine (ext_any base _ Y.length s kk x _ wr HT2.out HKK.out hx0 HXS.out HR.out.own (by omega) (by omega)).mono ?_
        rintro e w5 ⟨v5, rfl, ho5, hk5, hat5⟩
        obtain ⟨A5, c5, rfl⟩ := own_slice ho5
        have hB5 := HR.out.blk.keep hk5 (fun hm => own_ne_blk HR.out.own HR.out.blk (by decide) (by simpa using hm))
        have hc5 := hB5.cell 0
        have hf5 := hB5.frozen 0
        simp at hc5
        have HB5 := Lib.hid hB5
        have HO5 := Lib.hid ho5
        clear hB5 ho5 hc0
        go_wp2
        go_roundw
        case rel =>
          refine ⟨j + 1, .slice A5 (Y.length + s) c5, by omega, by go_num, by rw [HTS.out]; exact good_snoc HG.out (by rw [HS.out]; have := of_decide_eq_true (show decide ((s : Int) ≠ 0) = true by simpa using hsb); exact this), ?_, ?_, ?_⟩
          · rw [HTS.out, flat_snoc, ← List.append_assoc, ← HY.out, HS.out, Int.toNat_natCast]
            refine ⟨?_, ?_⟩
            · have := HB5.out.set_ 0 (.slice A5 (Y.length + s) c5)
              simpa using this
            · have hne := own_ne_blk HO5.out HB5.out (by decide)
              have := own_keep HO5.out (S := [g]) ((Keep.refl _ w5).setCell (p := ⟨g, 0, none⟩) (.inl (by simp)) (.slice A5 (Y.length + s) c5)) (fun h hh hm => hne (by rw [hh]; simpa using hm))
              rw [List.length_append, enc_length']
              simpa using this
          · refine (hkr.trans' hk5 fun h hh => ?_).setCell (.inl (by simp)) _
            rcases hat with e | e
            · rw [e] at hh; exact .inl (by simp; exact .inr (by simpa using hh))
            · exact .inr (e h (by simpa using hh))
          · rcases hat5 with e | e
            · rw [e]; exact hat
            · exact .inr fun h hh => by have := e h hh; omega
        case measure => simp [intOf]; omega
    · have hjl : j = l.length := by omega
      subst hjl
      have HR := Lib.hid hWr
      have HG := Lib.hid hgood
      clear hWr hgood
      go_wp2
      go_end0
      have e : l.take l.length = l := List.take_length
      refine ⟨v', rfl, hkr, hat, .inl ⟨?_, ?_⟩⟩
      · have := HG.out; rwa [e] at this
      · have := HR.out; rwa [e] at this

set_option maxHeartbeats 1000000 in
theorem wLong_ok {base g : Nat} {v : Value} {X : List Int} (hW : Wr w base g v X) (hbase : base ≤ w.heap.size) (hT : Tabs w) (hb1 : 1 < base) (hg1 : 1 ≠ g) (u : Value) (l : List Int) (hu : Sl .u8 w u l)
    (hlim : X.length + l.length + 8 ≤ 1000000) (hne : 0 < l.length → ∀ h, u.ownBlock = some h → h ∉ g :: v.ownBlock.toList) :
    Calls Tryd.prog 33 #[.pointer (some ⟨g, 0, none⟩), u] w fun e w' => ∃ v', e = .returned (.tuple #[]) ∧ Wr w' base g v' (X ++ enc l.length (vlen l.length).toNat ++ l) ∧ Keep (g :: v.ownBlock.toList) w w' ∧
      (v'.ownBlock = v.ownBlock ∨ ∀ h, v'.ownBlock = some h → w.heap.size ≤ h) := by
  have hgl := hW.blk.lt
  have hvb := Lib.hid hW.own.lt
  have HU := Lib.hid hu
  have HT := Lib.hid hT
  have HW := Lib.hid hW
  have HNE := Lib.hid hne
  obtain ⟨A2, c2, rfl, h1, h2, _⟩ := hu
  clear hW hT hne
  go_enter Tryd.func33, Tryd.ntmps33
  go_wp2_with fail
  have k0 : Keep [] w (w.alloc (.cells #[.int .u64 l.length] 22)) := (Keep.refl _ _).alloc _
  have hSl : Sl .u64 (w.alloc (.cells #[.int .u64 l.length] 22)) (.slice (some ⟨w.heap.size, 0, none⟩) [(l.length : Int)].length 1) [(l.length : Int)] :=
    ⟨_, _, rfl, by simp, by omega, by simpa using Rd.one w (.int .u64 l.length) 22, by
      intro x hx
      rw [List.mem_singleton.1 hx]
      simp [Lit.wf, IntKind.min, IntKind.max, IntKind.signed, IntKind.bits]
      omega⟩
  have hgd : good [(l.length : Int)] := by
    intro x hx
    rw [List.mem_singleton.1 hx]
    unfold vlen
    repeat' split <;> omega
  refine (wInt_ok (w.alloc (.cells #[.int .u64 l.length] 22)) ⟨HW.out.blk.alloc _, own_keep0 HW.out.own k0⟩ (by simp; omega) (HT.out.keep k0 (by simp)) hb1 hg1 _ [(l.length : Int)] hSl (by simp; omega)
    (by
      intro _ h hh hm
      obtain rfl : w.heap.size = h := by simpa [Value.ownBlock] using hh
      simp only [List.mem_cons] at hm
      rcases hm with e | e
      · omega
      · have := (hvb.out _ (by simpa using e)).2; omega)).mono ?_
  rintro e w1 ⟨v1, rfl, hk1, hat1, ⟨_, hW1⟩ | ⟨hb, _⟩⟩
  rotate_left
  · exact absurd hgd hb
  have hfl : flat [(l.length : Int)] = enc l.length (vlen l.length).toNat := by simp [flat]
  rw [hfl] at hW1
  have hk01 : Keep (g :: v.ownBlock.toList) w w1 := (k0.more0).trans hk1
  have hel := enc_length' l.length (vlen l.length).toNat
  have hvr := vlen_range l.length
  have B := Lib.hid (wBytes_ok w1 hW1 (by have := hk01.size; omega) _ l (HU.out.keep hk01 HNE.out) (by rw [List.length_append]; omega))
  clear hSl hW1 hk1 hfl hgd
  go_wp2_with (go_at_call 34; with_reducible refine B.out.mono ?_; rintro e w2 ⟨v2, rfl, hW2, hk2, hat2⟩; have HW2 := Lib.hid hW2; clear hW2)
  go_end0
  have hsz := hk01.size
  simp at hat1
  refine ⟨v2, rfl, HW2.out, hk01.trans' hk2 ?_, ?_⟩
  · intro h hh
    rcases List.mem_cons.1 hh with e | e
    · left; rw [e]; simp
    · rcases hat1 with e1 | e1
      · left; rw [e1] at e; exact List.mem_cons_of_mem _ e
      · right; have := e1 h (by simpa using e); omega
  · rcases hat2 with e | e
    · rw [e]
      rcases hat1 with e1 | e1
      · exact .inl e1
      · exact .inr fun h hh => by have := e1 h hh; omega
    · exact .inr fun h hh => by have := e h hh; omega

set_option maxHeartbeats 1000000 in
theorem wDone_ok {base g : Nat} {v : Value} {X : List Int} (hW : Wr w base g v X) (hX : X.length ≤ 1000000) (hwf : ∀ x ∈ X, (Lit.int .u8 x).wf = true) :
    Calls Tryd.prog 35 #[.pointer (some ⟨g, 0, none⟩)] w fun e w' => ∃ v', e = .returned (.tuple #[v', .int .i64 0]) ∧ w'.ownsRow w.heap.size 5 1 v' X.length (X.map (Value.int .u8)) ∧ Keep [] w w' := by
  have C := Lib.hid (clone_any w v X (Sl.of_own hW.own hwf) hX)
  obtain ⟨A, c, rfl⟩ := own_slice hW.own
  have hc0 : w.cell? ⟨g, 0, none⟩ = some (.slice A X.length c) := hW.blk.cell 0
  have hc1 : w.cell? ⟨g, 1, none⟩ = some (.int .i64 0) := hW.blk.cell 1
  clear hW hwf
  go_enter Tryd.func35, Tryd.ntmps35
  go_wp2_with (go_at_call 39; with_reducible refine C.out.mono ?_; rintro e w1 ⟨v1, rfl, ho1, hk1⟩; have HO1 := Lib.hid ho1; clear ho1)
  go_ret2
  exact ⟨v1, rfl, HO1.out, hk1⟩

set_option maxHeartbeats 1000000 in
theorem wDone_stopped {g : Nat} {v : Value} (hB : Blk w g 52 #[v, .int .i64 2]) :
    Calls Tryd.prog 35 #[.pointer (some ⟨g, 0, none⟩)] w fun e w' => e = .returned (.tuple #[.slice none 0 0, .int .i64 2]) ∧ Keep [] w w' := by
  have hc1 : w.cell? ⟨g, 1, none⟩ = some (.int .i64 2) := hB.cell 1
  clear hB
  go_enter Tryd.func35, Tryd.ntmps35
  go_wp2
  go_quiet (fail)
  go_wp2
  go_ret2
  exact ⟨rfl, (Keep.refl _ _).drewN _⟩
end
end Go.Proofs.YtaifocfnkhgpoaaDoor
