/-
  Contracts of the Reader's methods: a state is the bytes that are left and the error.
-/
import Derived.Test.YtaifocfnkhgpoaaDoorWriter
import Derived.Test.YtaifocfnkhgpoaaDoorTake
namespace Go.Proofs.YtaifocfnkhgpoaaDoor
open Go.RowKit

/-! ### What the calls do to a state -/
def sTake (l : List Int) (e : Int) : Int × List Int × Int :=
  if e ≠ 0 then (0, [], e) else if tkS l = 0 then (0, [], 3) else (tkN l, l.drop (tkS l), 0)
def sFail (l : List Int) (e k : Int) : List Int × Int := if e = 0 then ([], k) else (l, e)
def sLeast (l : List Int) (e : Int) : Int × List Int × Int :=
  if e ≠ 0 then (0, [], e) else if tkS l = 0 then (0, [], 3) else if (tkS l : Int) = vlen (tkN l) then (tkN l, l.drop (tkS l), 0) else (0, [], 4)
def sCount (k : Int) (l : List Int) (e : Int) : Int × List Int × Int :=
  if max k 0 < (sTake l e).1 then (0, [], 2) else sTake l e
def sNext (k : Int) (l : List Int) (e : Int) : List Int × List Int × Int :=
  if k < 0 ∨ (l.length : Int) < k then ([], (sFail l e 3).1, (sFail l e 3).2) else (l.take k.toNat, l.drop k.toNat, e)

theorem tkS_le (l : List Int) : tkS l ≤ l.length := by
  unfold tkS
  split
  · simp
  · split <;> omega
theorem tkN_bound (l : List Int) (hl : ∀ x ∈ l, (Lit.int .u8 x).wf = true) : 0 ≤ tkN l ∧ tkN l ≤ 18446744073709551615 := by
  unfold tkN
  split
  · simp
  · rename_i x r
    split
    · simp
    · have hx := wf_u8 (hl x (by simp))
      have hb := be_bound (x % 64) (r.take (2 ^ (x / 64).toNat - 1)) (by omega) (fun y hy => wf_u8 (hl y (by simp [List.mem_of_mem_take hy])))
      refine ⟨hb.1, ?_⟩
      have h1 : (r.take (2 ^ (x / 64).toNat - 1)).length ≤ 7 := by
        have hq : (x / 64).toNat ≤ 3 := by omega
        have : 2 ^ (x / 64).toNat ≤ 2 ^ 3 := Nat.pow_le_pow_right (by omega) hq
        rw [List.length_take]
        omega
      have h2 : (256 : Int) ^ (r.take (2 ^ (x / 64).toNat - 1)).length ≤ 72057594037927936 := by
        generalize (r.take (2 ^ (x / 64).toNat - 1)).length = m at h1 ⊢
        rcases (show m = 0 ∨ m = 1 ∨ m = 2 ∨ m = 3 ∨ m = 4 ∨ m = 5 ∨ m = 6 ∨ m = 7 by omega) with rfl | rfl | rfl | rfl | rfl | rfl | rfl | rfl <;> decide
      have h3 : (x % 64 + 1) * 256 ^ (r.take (2 ^ (x / 64).toNat - 1)).length ≤ 64 * 72057594037927936 := by
        refine Int.le_trans (Int.mul_le_mul_of_nonneg_right (show x % 64 + 1 ≤ 64 by omega) (Int.le_of_lt (pow_pos' _))) ?_
        exact Int.mul_le_mul_of_nonneg_left h2 (by omega)
      omega

/-- A slice of bytes never lies in a block that holds no byte. -/
theorem sl_ne {w : World} {v : Value} {l : List Int} {g : Nat} {t : TypeId} {cs : Array Value} (h : Sl .u8 w v l) (hB : Blk w g t cs) (hc : ∀ (j : Nat) (x : Int), cs[j]? ≠ some (Value.int .u8 x)) (hl : 0 < l.length) : ∀ k, v.ownBlock = some k → k ≠ g := by
  obtain ⟨b, off, c, rfl, _, _, hcell⟩ := h.cells hl
  intro k hk e
  have hk : b = k := by simpa [Value.ownBlock] using hk
  subst hk
  subst e
  have := hcell 0 hl
  rw [hB.cell] at this
  exact hc _ _ this

/-- The Reader's cells. -/
def RS (w : World) (g : Nat) (l : List Int) (e : Int) : Prop := ∃ v, Blk w g 66 #[v, .int .i64 e] ∧ Sl .u8 w v l ∧ (e ≠ 0 → l = [])

theorem sl_form {k : IntKind} {w : World} {v : Value} {l : List Int} (h : Sl k w v l) : ∃ A c, v = .slice A l.length c := by
  obtain ⟨A, c, h, _⟩ := h
  exact ⟨A, c, h⟩
theorem rs_cells {A : Option Addr} {n c : Nat} {e : Int} : ∀ (j : Nat) (x : Int), (#[.slice A n c, .int .i64 e] : Array Value)[j]? ≠ some (Value.int .u8 x) := by
  intro j x h
  match j, h with
  | 0, h => simp at h
  | 1, h => simp at h
  | j + 2, h => simp at h

theorem RS.keep {w w' : World} {g : Nat} {l : List Int} {e : Int} {S : List Nat} (h : RS w g l e) (k : Keep S w w') (hg : g ∉ S) (hS : ∀ v, Sl .u8 w v l → 0 < l.length → ∀ b, v.ownBlock = some b → b ∉ S) : RS w' g l e := by
  obtain ⟨v, h1, h2, h3⟩ := h
  exact ⟨v, h1.keep k hg, h2.keep k (hS v h2), h3⟩

/-- Field 0 written. -/
theorem RS.set0 {w : World} {g : Nat} {v : Value} {e : Int} {A : Option Addr} {n c : Nat} {l : List Int} (h : Blk w g 66 #[v, .int .i64 e]) (hv : ∃ A c n, v = .slice A n c) (h2 : Sl .u8 w (.slice A n c) l) (h3 : e ≠ 0 → l = []) :
    RS (w.setCell ⟨g, 0, none⟩ (.slice A n c)) g l e := by
  obtain ⟨A', c', n', rfl⟩ := hv
  refine ⟨_, by simpa using h.set_ 0 (.slice A n c), ?_, h3⟩
  refine h2.keep (S := [g]) ((Keep.refl _ _).setCell (.inl (by simp)) _) (fun hl b hb hm => ?_)
  exact sl_ne h2 h rs_cells hl b hb (by simpa using hm)

section
variable (w : World)
set_option maxHeartbeats 400000
theorem rErr {g : Nat} {l : List Int} {e : Int} (h : RS w g l e) :
    Calls Tryd.prog 29 #[.pointer (some ⟨g, 0, none⟩)] w fun r w' => r = .returned (.int .i64 e) ∧ w = w' := by
  obtain ⟨v, hB, _⟩ := h
  have h1 : w.cell? ⟨g, 1, none⟩ = some (.int .i64 e) := hB.cell 1
  clear hB
  go_enter Tryd.func29, Tryd.ntmps29
  go_wp2
  go_ret
  exact ⟨rfl, rfl⟩
theorem rLeft {g : Nat} {l : List Int} {e : Int} (h : RS w g l e) :
    Calls Tryd.prog 30 #[.pointer (some ⟨g, 0, none⟩)] w fun r w' => r = .returned (.int .i64 l.length) ∧ w = w' := by
  obtain ⟨v, hB, hS, _⟩ := h
  obtain ⟨A, c, rfl⟩ := sl_form hS
  have h1 : w.cell? ⟨g, 0, none⟩ = some (.slice A l.length c) := hB.cell 0
  clear hB
  go_enter Tryd.func30, Tryd.ntmps30
  go_wp2
  go_ret
  exact ⟨rfl, rfl⟩
theorem rFail {g : Nat} {l : List Int} {e k : Int} (h : RS w g l e) (hk : k ≠ 0) :
    Calls Tryd.prog 28 #[.pointer (some ⟨g, 0, none⟩), .int .i64 k] w fun r w' => r = .returned (.tuple #[]) ∧ RS w' g (sFail l e k).1 (sFail l e k).2 ∧ Keep [g] w w' := by
  obtain ⟨v, hB, hS, h3⟩ := h
  obtain ⟨A, c, rfl⟩ := sl_form hS
  have h0 : w.cell? ⟨g, 0, none⟩ = some (.slice A l.length c) := hB.cell 0
  have h1 : w.cell? ⟨g, 1, none⟩ = some (.int .i64 e) := hB.cell 1
  have f0 := hB.frozen 0
  have f1 := hB.frozen 1
  have kb : (k == 0) = false := by simpa using hk
  have HB := Lib.hid hB
  by_cases he : e = 0
  · subst he
    clear hB hk
    go_enter Tryd.func28, Tryd.ntmps28
    go_wp2
    go_end0
    refine ⟨rfl, ?_, ((Keep.refl _ _).setCell (.inl (by simp)) _).setCell (.inl (by simp)) _⟩
    simp only [sFail, if_true]
    exact ⟨_, by simpa using (HB.out.set_ 1 (.int .i64 k)).set_ 0 (.slice none 0 0), Sl.nil _ _, fun _ => rfl⟩
  · have eb : (e != 0) = true := by simpa using he
    have HS := Lib.hid hS
    have H3 := Lib.hid h3
    have HE := Lib.hid he
    clear hB hk he hS h3
    go_enter Tryd.func28, Tryd.ntmps28
    go_wp2
    refine bodyPost_ret (results_none rfl _ _ _) rfl ?_
    refine ⟨rfl, ?_, Keep.refl _ _⟩
    unfold sFail
    rw [if_neg HE.out]
    exact ⟨_, HB.out, HS.out, H3.out⟩

set_option maxHeartbeats 1000000 in
theorem rTake {g : Nat} {l : List Int} {e : Int} (h : RS w g l e) :
    Calls Tryd.prog 40 #[.pointer (some ⟨g, 0, none⟩)] w fun r w' => ∃ s : Int, r = .returned (.tuple #[.int .u64 (sTake l e).1, .int .i64 s, .bool (decide (e = 0 ∧ tkS l ≠ 0))]) ∧ (e = 0 → s = tkS l) ∧
      RS w' g (sTake l e).2.1 (sTake l e).2.2 ∧ Keep [g] w w' := by
  obtain ⟨v, hB, hS, h3⟩ := h
  have T := Lib.hid (take_any v l w hS)
  obtain ⟨A, c, rfl⟩ := sl_form hS
  have h0 : w.cell? ⟨g, 0, none⟩ = some (.slice A l.length c) := hB.cell 0
  have f0 := hB.frozen 0
  have HRS := Lib.hid (show RS w g l e from ⟨_, hB, hS, h3⟩)
  by_cases hts : tkS l = 0
  · have hE : tkE l = 3 := by unfold tkE; rw [if_pos hts]
    have F := Lib.hid (rFail w HRS.out (show (3 : Int) ≠ 0 by decide))
    rw [hE, hts] at T
    have hres : (sTake l e).1 = 0 ∧ (sTake l e).2.1 = (sFail l e 3).1 ∧ (sTake l e).2.2 = (sFail l e 3).2 := by
      unfold sTake sFail
      by_cases he : e = 0
      · simp [he, hts]
      · simp [he, h3 he]
    rw [hres.1, hres.2.1, hres.2.2]
    have HTS := Lib.hid hts
    clear hB hS h3 hE hts hres HRS
    generalize tkN l = N at *
    go_enter Tryd.func40, Tryd.ntmps40
    go_wp2_with (first
      | (go_at_call 15; with_reducible refine T.out.mono ?_; rintro e w' ⟨rfl, rfl⟩)
      | (go_at_call 28; with_reducible refine F.out.mono ?_; rintro e w' ⟨rfl, hr, hk⟩; have HR := Lib.hid hr; clear hr))
    go_ret3
    exact ⟨0, by simp [HTS.out], fun _ => by rw [HTS.out]; rfl, HR.out, hk⟩
  · have he : e = 0 := by
      rcases Decidable.em (e = 0) with h | h
      · exact h
      · rw [h3 h] at hts; simp [tkS] at hts
    subst he
    have hE : tkE l = 0 := by unfold tkE; rw [if_neg hts]
    rw [hE] at T
    have hres : sTake l 0 = (tkN l, l.drop (tkS l), 0) := by simp [sTake, hts]
    rw [hres]
    have hle := tkS_le l
    have hd : decide ((0 : Int) = 0 ∧ tkS l ≠ 0) = true := by simp [hts]
    rw [hd]
    obtain ⟨A', c', e', hlc, hcm, _⟩ := id hS
    simp only [Value.slice.injEq, true_and] at e'
    obtain ⟨rfl, rfl⟩ := e'
    have HS := Lib.hid hS
    have HB := Lib.hid hB
    clear hB hS h3 hE hts hres HRS hd
    generalize tkN l = N at *
    obtain ⟨s, hs⟩ : ∃ s, s = tkS l := ⟨_, rfl⟩
    rw [← hs] at hle T
    have HSS := Lib.hid hs
    rw [← hs]
    clear hs
    go_enter Tryd.func40, Tryd.ntmps40
    go_wp2_with (go_at_call 15; with_reducible refine T.out.mono ?_; rintro e w' ⟨rfl, rfl⟩)
    · go_ret3
      refine ⟨s, rfl, rfl, ?_, (Keep.refl _ _).setCell (.inl (by simp)) _⟩
      have hd := HS.out.drop (A' := A) hle (fun h => by omega)
      rw [show c - s = 0 by omega] at hd
      exact RS.set0 HB.out ⟨_, _, _, rfl⟩ hd (fun h => absurd rfl h)
    · go_ret3
      refine ⟨s, rfl, rfl, ?_, (Keep.refl _ _).setCell (.inl (by simp)) _⟩
      exact RS.set0 HB.out ⟨_, _, _, rfl⟩ (HS.out.drop hle (fun _ => rfl)) (fun h => absurd rfl h)

theorem rInt {g : Nat} {l : List Int} {e : Int} (h : RS w g l e) :
    Calls Tryd.prog 22 #[.pointer (some ⟨g, 0, none⟩)] w fun r w' => r = .returned (.int .u64 (sTake l e).1) ∧ RS w' g (sTake l e).2.1 (sTake l e).2.2 ∧ Keep [g] w w' := by
  have T := Lib.hid (rTake w h)
  generalize (sTake l e).1 = N at *
  generalize (sTake l e).2.1 = L at *
  generalize (sTake l e).2.2 = E at *
  generalize decide (e = 0 ∧ tkS l ≠ 0) = ok at *
  clear h
  go_enter Tryd.func22, Tryd.ntmps22
  go_wp2_with (go_at_call 40; with_reducible refine T.out.mono ?_; rintro r w' ⟨s, rfl, _, hr, hk⟩; have HR := Lib.hid hr; clear hr)
  go_ret
  exact ⟨rfl, HR.out, hk⟩

set_option maxHeartbeats 1000000 in
theorem rLeast {g : Nat} {l : List Int} {e : Int} (h : RS w g l e) :
    Calls Tryd.prog 23 #[.pointer (some ⟨g, 0, none⟩)] w fun r w' => r = .returned (.int .u64 (sLeast l e).1) ∧ RS w' g (sLeast l e).2.1 (sLeast l e).2.2 ∧ Keep [g] w w' := by
  have T := Lib.hid (rTake w h)
  clear h
  by_cases hok : e = 0 ∧ tkS l ≠ 0
  · obtain ⟨rfl, hts⟩ := hok
    have hd : decide ((0 : Int) = 0 ∧ tkS l ≠ 0) = true := by simp [hts]
    rw [hd] at T
    have h1 : sTake l 0 = (tkN l, l.drop (tkS l), 0) := by simp [sTake, hts]
    rw [h1] at T
    obtain ⟨s, hs⟩ : ∃ s, s = tkS l := ⟨_, rfl⟩
    obtain ⟨N, hN⟩ : ∃ N, N = tkN l := ⟨_, rfl⟩
    obtain ⟨L, hL⟩ : ∃ L, L = l.drop (tkS l) := ⟨_, rfl⟩
    rw [← hN, ← hL, ← hs] at T
    by_cases hv : (s : Int) = vlen N
    · have hres : sLeast l 0 = (N, L, 0) := by
        unfold sLeast
        rw [if_neg (fun h => h rfl), if_neg hts, ← hs, ← hN, if_pos hv, hs, ← hL]
      rw [hres]
      have LN := fun W => Lib.hid (len_any N W)
      rw [← hv] at LN
      clear hres hs hN hL hd h1 hts hv
      go_enter Tryd.func23, Tryd.ntmps23
      go_wp2_with (first
        | (go_at_call 40; with_reducible refine T.out.mono ?_; rintro r w' ⟨s', rfl, hs', hr, hk⟩; obtain rfl := hs' rfl; have HR := Lib.hid hr; clear hr)
        | (go_at_call 9; with_reducible refine (LN _).out.mono ?_; rintro r w' ⟨rfl, rfl⟩))
      go_ret
      exact ⟨rfl, HR.out, hk⟩
    · have hres : sLeast l 0 = (0, [], 4) := by
        unfold sLeast
        rw [if_neg (fun h => h rfl), if_neg hts, ← hs, ← hN, if_neg hv]
      rw [hres]
      have LN := fun W => Lib.hid (len_any N W)
      generalize vlen N = V at *
      have hb : ((s : Int) != V) = true := by simpa using hv
      clear hres hs hN hL hd h1 hts hv
      go_enter Tryd.func23, Tryd.ntmps23
      go_wp2_with (first
        | (go_at_call 40; with_reducible refine T.out.mono ?_; rintro r w' ⟨s', rfl, hs', hr, hk⟩; obtain rfl := hs' rfl; have HR := Lib.hid hr; clear hr)
        | (go_at_call 9; with_reducible refine (LN _).out.mono ?_; rintro r w' ⟨rfl, rfl⟩)
        | (go_at_call 28; refine (rFail _ HR.out (by decide)).mono ?_; rintro r w2 ⟨rfl, hr2, hk2⟩; have HR2 := Lib.hid hr2; clear hr2))
      go_ret
      exact ⟨rfl, HR2.out, hk.trans hk2⟩
  · have hd : decide (e = 0 ∧ tkS l ≠ 0) = false := by simpa using hok
    have hres : sLeast l e = sTake l e := by
      unfold sLeast sTake
      by_cases he : e = 0
      · have : tkS l = 0 := by
          rcases Decidable.em (tkS l = 0) with h | h
          · exact h
          · exact absurd ⟨he, h⟩ hok
        simp [he, this]
      · simp [he]
    rw [hres]
    have hz : (sTake l e).1 = 0 := by
      unfold sTake
      by_cases he : e = 0
      · have : tkS l = 0 := by
          rcases Decidable.em (tkS l = 0) with h | h
          · exact h
          · exact absurd ⟨he, h⟩ hok
        simp [he, this]
      · simp [he]
    rw [hz] at T ⊢
    rw [hd] at T
    generalize (sTake l e).2.1 = L at *
    generalize (sTake l e).2.2 = E at *
    clear hres hz hd hok
    go_enter Tryd.func23, Tryd.ntmps23
    go_wp2_with (go_at_call 40; with_reducible refine T.out.mono ?_; rintro r w' ⟨s', rfl, _, hr, hk⟩; have HR := Lib.hid hr; clear hr)
    go_ret
    exact ⟨rfl, HR.out, hk⟩

theorem sTake_bound (l : List Int) (e : Int) (hl : ∀ x ∈ l, (Lit.int .u8 x).wf = true) : 0 ≤ (sTake l e).1 ∧ (sTake l e).1 ≤ 18446744073709551615 := by
  have := tkN_bound l hl
  unfold sTake
  split
  · simp
  · split
    · simp
    · exact this
theorem sTake_ok {l : List Int} {e : Int} (h : 0 < (sTake l e).1) : (sTake l e).2.2 = 0 := by
  unfold sTake at h ⊢
  split at h
  · simp at h
  · rename_i h1
    rw [if_neg h1]
    split at h
    · simp at h
    · rename_i h2
      rw [if_neg h2]
theorem RS.wf {w : World} {g : Nat} {l : List Int} {e : Int} (h : RS w g l e) : ∀ x ∈ l, (Lit.int .u8 x).wf = true := by
  obtain ⟨v, _, h, _⟩ := h
  exact h.wf

set_option maxHeartbeats 1000000 in
theorem rCount {g : Nat} {l : List Int} {e k : Int} (h : RS w g l e) (h0 : -9223372036854775808 ≤ k) (h1 : k ≤ 9223372036854775807) :
    Calls Tryd.prog 24 #[.pointer (some ⟨g, 0, none⟩), .int .i64 k] w fun r w' => r = .returned (.int .i64 (sCount k l e).1) ∧ RS w' g (sCount k l e).2.1 (sCount k l e).2.2 ∧ Keep [g] w w' := by
  have T := Lib.hid (rInt w h)
  obtain ⟨b0, b1⟩ := sTake_bound l e h.wf
  have hok := Lib.hid (@sTake_ok l e)
  unfold sCount
  clear h
  generalize sTake l e = t at *
  obtain ⟨N, L, E⟩ := t
  simp only at T b0 b1 hok ⊢
  by_cases hm : max k 0 < N
  · rw [if_pos hm]
    have hE : E = 0 := hok.out (by omega)
    subst hE
    by_cases hk : k < 0
    all_goals
      go_enter Tryd.func24, Tryd.ntmps24
      go_wp2_with (first
        | (go_at_call 22; with_reducible refine T.out.mono ?_; rintro r w' ⟨rfl, hr, hk1⟩; have HR := Lib.hid hr; clear hr)
        | (go_at_call 28; refine (rFail _ HR.out (by decide)).mono ?_; rintro r w2 ⟨rfl, hr2, hk2⟩; have HR2 := Lib.hid hr2; clear hr2))
      go_ret
      exact ⟨rfl, HR2.out, hk1.trans hk2⟩
  · rw [if_neg hm]
    by_cases hk : k < 0
    all_goals
      go_enter Tryd.func24, Tryd.ntmps24
      go_wp2_with (go_at_call 22; with_reducible refine T.out.mono ?_; rintro r w' ⟨rfl, hr, hk1⟩; have HR := Lib.hid hr; clear hr)
      go_ret
      exact ⟨rfl, HR.out, hk1⟩

set_option maxHeartbeats 1000000 in
theorem rNext {g : Nat} {l : List Int} {e k : Int} (h : RS w g l e) :
    Calls Tryd.prog 41 #[.pointer (some ⟨g, 0, none⟩), .int .i64 k] w fun r w' => ∃ v', r = .returned v' ∧ Sl .u8 w' v' (sNext k l e).1 ∧ RS w' g (sNext k l e).2.1 (sNext k l e).2.2 ∧ Keep [g] w w' := by
  have L := Lib.hid (rLeft w h)
  have F := Lib.hid (rFail w h (show (3 : Int) ≠ 0 by decide))
  have HRS := Lib.hid h
  obtain ⟨v, hB, hS, h3⟩ := h
  obtain ⟨A, c, rfl⟩ := sl_form hS
  have h0 : w.cell? ⟨g, 0, none⟩ = some (.slice A l.length c) := hB.cell 0
  have f0 := hB.frozen 0
  obtain ⟨A', c', e', hlc, hcm, _⟩ := id hS
  simp only [Value.slice.injEq, true_and] at e'
  obtain ⟨rfl, rfl⟩ := e'
  have HS := Lib.hid hS
  have HB := Lib.hid hB
  have H3 := Lib.hid h3
  clear hB hS h3
  by_cases hbad : k < 0 ∨ (l.length : Int) < k
  · have hres : sNext k l e = ([], (sFail l e 3).1, (sFail l e 3).2) := by unfold sNext; rw [if_pos hbad]
    rw [hres]
    generalize (sFail l e 3).1 = l2 at *
    generalize (sFail l e 3).2 = e2 at *
    clear hres
    rcases hbad with hb | hb
    · go_enter Tryd.func41, Tryd.ntmps41
      go_wp2_with (first
        | (go_at_call 30; with_reducible refine L.out.mono ?_; rintro r w' ⟨rfl, rfl⟩)
        | (go_at_call 28; with_reducible refine F.out.mono ?_; rintro r w' ⟨rfl, hr, hk⟩; have HR := Lib.hid hr; clear hr))
      go_ret
      exact ⟨_, rfl, Sl.nil _ _, HR.out, hk⟩
    · have hb' : ¬ k < 0 := by omega
      go_enter Tryd.func41, Tryd.ntmps41
      go_wp2_with (first
        | (go_at_call 30; with_reducible refine L.out.mono ?_; rintro r w' ⟨rfl, rfl⟩)
        | (go_at_call 28; with_reducible refine F.out.mono ?_; rintro r w' ⟨rfl, hr, hk⟩; have HR := Lib.hid hr; clear hr))
      go_ret
      exact ⟨_, rfl, Sl.nil _ _, HR.out, hk⟩
  · have hres : sNext k l e = (l.take k.toNat, l.drop k.toNat, e) := by unfold sNext; rw [if_neg hbad]
    rw [hres]
    obtain ⟨n, rfl⟩ : ∃ n : Nat, k = n := ⟨k.toNat, by omega⟩
    rw [Int.toNat_natCast]
    have hnl : n ≤ l.length := by omega
    clear hbad hres F
    by_cases hn0 : n = 0
    · subst hn0
      go_enter Tryd.func41, Tryd.ntmps41
      go_wp2_with (go_at_call 30; with_reducible refine L.out.mono ?_; rintro r w' ⟨rfl, rfl⟩)
      go_ret
      exact ⟨_, rfl, by simpa using Sl.nil _ _, by simpa using HRS.out, Keep.refl _ _⟩
    · have hb0 : ((n : Int) == 0) = false := by simp; omega
      have hne : ∀ b, (Value.slice A n c).ownBlock = some b → b ∉ [g] := fun b hb hm => sl_ne HS.out HB.out rs_cells (by omega) b (by cases A <;> simp_all [Value.ownBlock]) (by simpa using hm)
      have HNE := Lib.hid hne
      have H30 := Lib.hid (show e ≠ 0 → l.drop n = [] from fun he => by rw [H3.out he]; simp)
      clear hne
      go_enter Tryd.func41, Tryd.ntmps41
      go_wp2_with (go_at_call 30; with_reducible refine L.out.mono ?_; rintro r w' ⟨rfl, rfl⟩)
      · have hcn : c = n := by assumption
        subst hcn
        go_ret
        refine ⟨_, rfl, (HS.out.take hnl).keep ((Keep.refl _ _).setCell (S := [g]) (p := ⟨g, 0, none⟩) (.inl (by simp)) _) (fun _ => HNE.out), ?_, (Keep.refl _ _).setCell (.inl (by simp)) _⟩
        have hd := HS.out.drop (A' := A) hnl (fun h => by omega)
        rw [Nat.sub_self] at hd
        exact RS.set0 HB.out ⟨_, _, _, rfl⟩ hd H30.out
      · go_ret
        refine ⟨_, rfl, (HS.out.take hnl).keep ((Keep.refl _ _).setCell (S := [g]) (p := ⟨g, 0, none⟩) (.inl (by simp)) _) (fun _ => HNE.out), ?_, (Keep.refl _ _).setCell (.inl (by simp)) _⟩
        exact RS.set0 HB.out ⟨_, _, _, rfl⟩ (HS.out.drop hnl (fun _ => rfl)) H30.out

theorem sNext_length (k : Int) (l : List Int) (e : Int) : (sNext k l e).1.length ≤ l.length := by
  unfold sNext
  split
  · simp
  · simp only [List.length_take]; omega

theorem rBytes {g : Nat} {l : List Int} {e k : Int} (h : RS w g l e) (hl : l.length ≤ 1000) :
    Calls Tryd.prog 25 #[.pointer (some ⟨g, 0, none⟩), .int .i64 k] w fun r w' => ∃ v', r = .returned v' ∧ Sl .u8 w' v' (sNext k l e).1 ∧ RS w' g (sNext k l e).2.1 (sNext k l e).2.2 ∧ Keep [g] w w' := by
  have T := Lib.hid (rNext (k := k) w h)
  have hln := sNext_length k l e
  clear h
  generalize sNext k l e = t at *
  obtain ⟨X, L, E⟩ := t
  simp only at T hln ⊢
  go_enter Tryd.func25, Tryd.ntmps25
  go_wp2_with (first
    | (go_at_call 41; with_reducible refine T.out.mono ?_; rintro r w1 ⟨v1, rfl, hs, hr, hk⟩; have HR := Lib.hid hr; have HS := Lib.hid hs; clear hr hs)
    | (go_at_call 39; refine (clone_any w1 v1 X HS.out (by omega)).mono ?_; rintro r w2 ⟨v2, rfl, ho2, hk2⟩; have HO2 := Lib.hid ho2; clear ho2))
  go_ret
  exact ⟨v2, rfl, Sl.of_own HO2.out HS.out.wf, HR.out.keep hk2 (by simp) (by simp), hk.trans0 hk2⟩

/-- The one byte, or nought. -/
def sByte (l : List Int) (e : Int) : Int := if (sNext 1 l e).1.length = 1 then (sNext 1 l e).1[0]?.getD 0 else 0

theorem rByte {g : Nat} {l : List Int} {e : Int} (h : RS w g l e) :
    Calls Tryd.prog 26 #[.pointer (some ⟨g, 0, none⟩)] w fun r w' => r = .returned (.int .u8 (sByte l e)) ∧ RS w' g (sNext 1 l e).2.1 (sNext 1 l e).2.2 ∧ Keep [g] w w' := by
  have T := Lib.hid (rNext (k := 1) w h)
  unfold sByte
  clear h
  generalize sNext 1 l e = t at *
  obtain ⟨X, L, E⟩ := t
  simp only at T ⊢
  by_cases h1 : X.length = 1
  · rw [if_pos h1]
    have H1 := Lib.hid h1
    clear h1
    go_enter Tryd.func26, Tryd.ntmps26
    go_wp2_with fail
    refine T.out.mono ?_
    rintro r w1 ⟨v1, rfl, hs, hr, hk⟩
    obtain ⟨b, off, c, rfl, _, _, hc⟩ := hs.cells (by have := H1.out; omega)
    have hc0 := hc 0 (by have := H1.out; omega)
    simp only [Nat.add_zero] at hc0
    rw [H1.out]
    have HR := Lib.hid hr
    obtain ⟨x, hx⟩ : ∃ x, x = X[0]?.getD 0 := ⟨_, rfl⟩
    rw [← hx] at hc0
    have HX := Lib.hid hx
    clear hs hr hc hx
    go_wp2
    go_ret
    exact ⟨by rw [← HX.out]; rfl, HR.out, hk⟩
  · rw [if_neg h1]
    have hb : ((X.length : Int) == 1) = false := by simp; omega
    clear h1
    go_enter Tryd.func26, Tryd.ntmps26
    go_wp2_with fail
    refine T.out.mono ?_
    rintro r w1 ⟨v1, rfl, hs, hr, hk⟩
    obtain ⟨A, c, rfl⟩ := sl_form hs
    have HR := Lib.hid hr
    clear hs hr
    go_wp2
    go_ret
    exact ⟨rfl, HR.out, hk⟩

def sLong (k : Int) (l : List Int) (e : Int) : List Int × List Int × Int := sNext (sCount k l e).1 (sCount k l e).2.1 (sCount k l e).2.2
theorem sTake_length (l : List Int) (e : Int) : (sTake l e).2.1.length ≤ l.length := by
  unfold sTake
  split
  · simp
  · split
    · simp
    · simp
theorem sCount_length (k : Int) (l : List Int) (e : Int) : (sCount k l e).2.1.length ≤ l.length := by
  have := sTake_length l e
  unfold sCount
  split
  · simp
  · exact this

theorem rLong {g : Nat} {l : List Int} {e k : Int} (h : RS w g l e) (hl : l.length ≤ 1000) (h0 : -9223372036854775808 ≤ k) (h1 : k ≤ 9223372036854775807) :
    Calls Tryd.prog 27 #[.pointer (some ⟨g, 0, none⟩), .int .i64 k] w fun r w' => ∃ v', r = .returned v' ∧ Sl .u8 w' v' (sLong k l e).1 ∧ RS w' g (sLong k l e).2.1 (sLong k l e).2.2 ∧ Keep [g] w w' := by
  have T := Lib.hid (rCount (k := k) w h h0 h1)
  have hln := sCount_length k l e
  unfold sLong
  clear h
  generalize sCount k l e = t at *
  obtain ⟨X, L, E⟩ := t
  simp only at T hln ⊢
  go_enter Tryd.func27, Tryd.ntmps27
  go_wp2_with (first
    | (go_at_call 24; with_reducible refine T.out.mono ?_; rintro r w1 ⟨rfl, hr, hk⟩; have HR := Lib.hid hr; clear hr)
    | (go_at_call 25; refine (rBytes w1 HR.out (by omega)).mono ?_; rintro r w2 ⟨v2, rfl, hs2, hr2, hk2⟩; have HS2 := Lib.hid hs2; have HR2 := Lib.hid hr2; clear hs2 hr2))
  go_ret
  exact ⟨v2, rfl, HS2.out, HR2.out, hk.trans hk2⟩

def sEnd (l : List Int) (e : Int) : List Int × Int := if 0 < l.length then sFail l e 24 else (l, e)
theorem rEnd {g : Nat} {l : List Int} {e : Int} (h : RS w g l e) :
    Calls Tryd.prog 31 #[.pointer (some ⟨g, 0, none⟩)] w fun r w' => r = .returned (.int .i64 (sEnd l e).2) ∧ RS w' g (sEnd l e).1 (sEnd l e).2 ∧ Keep [g] w w' := by
  have L := Lib.hid (rLeft w h)
  have H := Lib.hid h
  unfold sEnd
  clear h
  by_cases hl : 0 < l.length
  · rw [if_pos hl]
    have F := Lib.hid (rFail w H.out (show (24 : Int) ≠ 0 by decide))
    generalize sFail l e 24 = t at *
    obtain ⟨l2, e2⟩ := t
    simp only at F ⊢
    go_enter Tryd.func31, Tryd.ntmps31
    go_wp2_with (first
      | (go_at_call 30; with_reducible refine L.out.mono ?_; rintro r w' ⟨rfl, rfl⟩)
      | (go_at_call 28; with_reducible refine F.out.mono ?_; rintro r w' ⟨rfl, hr, hk⟩; have HR := Lib.hid hr; clear hr)
      | (go_at_call 29; refine (rErr _ HR.out).mono ?_; rintro r w2 ⟨rfl, rfl⟩))
    go_ret
    exact ⟨rfl, HR.out, hk⟩
  · rw [if_neg hl]
    go_enter Tryd.func31, Tryd.ntmps31
    go_wp2_with (first
      | (go_at_call 30; with_reducible refine L.out.mono ?_; rintro r w' ⟨rfl, rfl⟩)
      | (go_at_call 29; refine (rErr _ H.out).mono ?_; rintro r w2 ⟨rfl, rfl⟩))
    go_ret
    exact ⟨rfl, H.out, Keep.refl _ _⟩

theorem rRead (v : Value) (l : List Int) (hv : Sl .u8 w v l) (hl : l.length ≤ 1000) :
    Calls Tryd.prog 17 #[v] w fun r w' => ∃ g, r = .returned (.pointer (some ⟨g, 0, none⟩)) ∧ RS w' g l 0 ∧ w.heap.size ≤ g ∧ Keep [] w w' := by
  have C := Lib.hid (clone_any w v l hv (by omega))
  have HW := Lib.hid hv.wf
  clear hv
  go_enter Tryd.func17, Tryd.ntmps17
  go_wp2_with (go_at_call 39; with_reducible refine C.out.mono ?_; rintro r w1 ⟨v1, rfl, ho1, hk1⟩; obtain ⟨A, c, rfl⟩ := own_slice ho1; have HO1 := Lib.hid ho1; clear ho1)
  go_ret
  refine ⟨w1.heap.size, rfl, ⟨_, Blk.new _ _ _, (Sl.of_own HO1.out HW.out).keep0 ((Keep.refl _ _).alloc _), fun h => absurd rfl h⟩, hk1.size, hk1.alloc _⟩
end
end Go.Proofs.YtaifocfnkhgpoaaDoor
