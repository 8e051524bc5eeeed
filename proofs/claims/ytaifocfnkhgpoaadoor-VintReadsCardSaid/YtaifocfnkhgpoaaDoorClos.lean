/-
  Contracts of the four functions that the law VintReads lays beside the Reader.
-/
import Derived.Test.YtaifocfnkhgpoaaDoorReader
import Derived.Test.YtaifocfnkhgpoaaDoorRTake
import Derived.Laws.EntriesVeiled
namespace Go.Proofs.YtaifocfnkhgpoaaDoor
open Go.RowKit

/-- The law's own boxes, from block G on: the bytes that are left, the error, two functions. -/
structure CS (w : World) (G : Nat) (l : List Int) (e : Int) : Prop where
  left : ∃ v, Blk w G 23 #[v] ∧ Sl .u8 w v l
  want : Blk w (G + 1) 26 #[.int .i64 e]
  ff : Blk w (G + 2) 41 #[.func (.func 18) #[] #[.pointer (some ⟨G + 1, 0, none⟩), .pointer (some ⟨G, 0, none⟩)]]
  tf : Blk w (G + 3) 42 #[.func (.func 19) #[] #[.pointer (some ⟨G, 0, none⟩), .pointer (some ⟨G + 1, 0, none⟩), .pointer (some ⟨G + 2, 0, none⟩)]]
  stop : e ≠ 0 → l = []

theorem one_cells {A : Option Addr} {n c : Nat} : ∀ (j : Nat) (x : Int), (#[.slice A n c] : Array Value)[j]? ≠ some (Value.int .u8 x) := by
  intro j x h
  match j, h with
  | 0, h => simp at h
  | j + 1, h => simp at h
theorem err_cells {e : Int} : ∀ (j : Nat) (x : Int), (#[.int .i64 e] : Array Value)[j]? ≠ some (Value.int .u8 x) := by
  intro j x h
  match j, h with
  | 0, h => simp at h
  | j + 1, h => simp at h

theorem CS.keep {w w' : World} {G : Nat} {l : List Int} {e : Int} {S : List Nat} (h : CS w G l e) (k : Keep S w w') (h0 : G ∉ S) (h1 : G + 1 ∉ S) (h2 : G + 2 ∉ S) (h3 : G + 3 ∉ S)
    (hS : ∀ v, Sl .u8 w v l → 0 < l.length → ∀ b, v.ownBlock = some b → b ∉ S) : CS w' G l e := by
  obtain ⟨⟨v, a1, a2⟩, b, c, d, s⟩ := h
  exact ⟨⟨v, a1.keep k h0, a2.keep k (hS v a2)⟩, b.keep k h1, c.keep k h2, d.keep k h3, s⟩

/-- The left box written. -/
theorem CS.setLeft {w : World} {G : Nat} {l l' : List Int} {e : Int} {A : Option Addr} {n c : Nat} (h : CS w G l e) (h2 : Sl .u8 w (.slice A n c) l') (h3 : e ≠ 0 → l' = []) :
    CS (w.setCell ⟨G, 0, none⟩ (.slice A n c)) G l' e := by
  obtain ⟨⟨v, a1, a2⟩, b, c1, d, s⟩ := h
  obtain ⟨A0, c0, rfl⟩ := sl_form a2
  refine ⟨⟨_, by simpa using a1.set_ 0 (.slice A n c), ?_⟩, b.far (by simp) _, c1.far (by simp) _, d.far (by simp) _, h3⟩
  refine h2.keep (S := [G]) ((Keep.refl _ _).setCell (p := ⟨G, 0, none⟩) (.inl (by simp)) _) (fun hl b hb hm => ?_)
  exact sl_ne h2 a1 one_cells hl b hb (by simpa using hm)

section
variable (w : World)
set_option maxHeartbeats 400000

theorem cFail {G : Nat} {l : List Int} {e k : Int} (h : CS w G l e) (hk : k ≠ 0) :
    Calls Tryd.prog 18 #[.int .i64 k, .pointer (some ⟨G + 1, 0, none⟩), .pointer (some ⟨G, 0, none⟩)] w fun r w' => r = .returned (.tuple #[]) ∧ CS w' G (sFail l e k).1 (sFail l e k).2 ∧ Keep [G, G + 1] w w' := by
  obtain ⟨v, a1, a2⟩ := h.left
  obtain ⟨A, c, rfl⟩ := sl_form a2
  have c0 : w.cell? ⟨G, 0, none⟩ = some (.slice A l.length c) := a1.cell 0
  have c1 : w.cell? ⟨G + 1, 0, none⟩ = some (.int .i64 e) := h.want.cell 0
  have f0 := a1.frozen 0
  have f1 := h.want.frozen 0
  have H := Lib.hid h
  clear a1 a2 h
  by_cases he : e = 0
  · subst he
    go_enter Tryd.func18, Tryd.ntmps18
    go_wp2
    go_end0
    refine ⟨rfl, ?_, ((Keep.refl _ _).setCell (.inl (by simp)) _).setCell (.inl (by simp)) _⟩
    simp only [sFail, if_true]
    obtain ⟨v, a1, _⟩ := H.out.left
    exact
      { left := ⟨_, by simpa using (a1.far (p := ⟨G + 1, 0, none⟩) (by simp) (.int .i64 k)).set_ 0 (.slice none 0 0), Sl.nil _ _⟩
        want := by simpa using (H.out.want.set_ 0 (.int .i64 k)).far (p := ⟨G, 0, none⟩) (by simp) (.slice none 0 0)
        ff := (H.out.ff.far (by simp) _).far (by simp) _
        tf := (H.out.tf.far (by simp) _).far (by simp) _
        stop := fun _ => rfl }
  · have eb : (e == 0) = false := by simpa using he
    have HE := Lib.hid he
    clear hk he
    go_enter Tryd.func18, Tryd.ntmps18
    go_wp2
    go_end0
    refine ⟨rfl, ?_, Keep.refl _ _⟩
    unfold sFail
    rw [if_neg HE.out]
    exact H.out

set_option maxHeartbeats 1000000 in
theorem cTake {G : Nat} {l : List Int} {e : Int} (h : CS w G l e) :
    Calls Tryd.prog 19 #[.pointer (some ⟨G, 0, none⟩), .pointer (some ⟨G + 1, 0, none⟩), .pointer (some ⟨G + 2, 0, none⟩)] w fun r w' => r = .returned (.int .u64 (sTake l e).1) ∧
      CS w' G (sTake l e).2.1 (sTake l e).2.2 ∧ Keep [G, G + 1] w w' := by
  obtain ⟨v, a1, a2⟩ := h.left
  have T := Lib.hid (rtake_any v l w a2)
  obtain ⟨A, c, rfl⟩ := sl_form a2
  have c0 : w.cell? ⟨G, 0, none⟩ = some (.slice A l.length c) := a1.cell 0
  have c1 : w.cell? ⟨G + 1, 0, none⟩ = some (.int .i64 e) := h.want.cell 0
  have c2 := h.ff.cell 0
  simp at c2
  have f0 := a1.frozen 0
  have H := Lib.hid h
  by_cases he : e = 0
  · subst he
    by_cases hts : tkS l = 0
    · have hN : tkN l = 0 := by
        cases l with
        | nil => rfl
        | cons x r =>
          simp only [tkS, tkN] at hts ⊢
          split at hts
          · rename_i h; rw [if_pos h]
          · have : 0 < 2 ^ (x / 64).toNat := Nat.pow_pos (by omega)
            omega
      have F := Lib.hid (cFail w H.out (show (3 : Int) ≠ 0 by decide))
      have hres : sTake l 0 = (0, [], 3) := by simp [sTake, hts]
      have hf : sFail l 0 3 = ([], 3) := by simp [sFail]
      rw [hts, hN] at T
      rw [hres]
      rw [hf] at F
      clear hts hN hres hf a1 a2 h
      go_enter Tryd.func19, Tryd.ntmps19
      go_wp2_with (first
        | (go_at_call 16; with_reducible refine T.out.mono ?_; rintro e w' ⟨rfl, rfl⟩)
        | (go_at_call 18; with_reducible refine F.out.mono ?_; rintro e w' ⟨rfl, hr, hk⟩; have HR := Lib.hid hr; clear hr))
      go_ret
      exact ⟨rfl, HR.out, hk⟩
    · have hres : sTake l 0 = (tkN l, l.drop (tkS l), 0) := by simp [sTake, hts]
      rw [hres]
      have hle := tkS_le l
      obtain ⟨A', c', e', hlc, hcm, _⟩ := id a2
      simp only [Value.slice.injEq, true_and] at e'
      obtain ⟨rfl, rfl⟩ := e'
      have HS := Lib.hid a2
      obtain ⟨s, hs⟩ : ∃ s, s = tkS l := ⟨_, rfl⟩
      rw [← hs] at hle T hts ⊢
      have hs0 : ((s : Int) == 0) = false := by simp; omega
      generalize tkN l = N at *
      clear hts hres a1 a2 h hs
      go_enter Tryd.func19, Tryd.ntmps19
      go_wp2_with (go_at_call 16; with_reducible refine T.out.mono ?_; rintro e w' ⟨rfl, rfl⟩)
      · go_ret
        refine ⟨rfl, ?_, (Keep.refl _ _).setCell (.inl (by simp)) _⟩
        have hd := HS.out.drop (A' := A) hle (fun h => by omega)
        rw [show c - s = 0 by omega] at hd
        exact H.out.setLeft hd (fun h => absurd rfl h)
      · go_ret
        refine ⟨rfl, ?_, (Keep.refl _ _).setCell (.inl (by simp)) _⟩
        exact H.out.setLeft (HS.out.drop hle (fun _ => rfl)) (fun h => absurd rfl h)
  · have hl := h.stop he
    subst hl
    have eb : (e != 0) = true := by simpa using he
    have hres : sTake [] e = (0, [], e) := by simp [sTake, he]
    rw [hres]
    simp only [List.length_nil, show tkN [] = 0 from rfl, show tkS [] = 0 from rfl] at T c0
    clear hres a1 a2 h he
    go_enter Tryd.func19, Tryd.ntmps19
    go_wp2_with (go_at_call 16; with_reducible refine T.out.mono ?_; rintro e w' ⟨rfl, rfl⟩)
    go_ret
    exact ⟨rfl, H.out, Keep.refl _ _⟩

theorem CS.wf {G : Nat} {l : List Int} {e : Int} (h : CS w G l e) : ∀ x ∈ l, (Lit.int .u8 x).wf = true := by
  obtain ⟨v, _, h2⟩ := h.left
  exact h2.wf

set_option maxHeartbeats 1000000 in
theorem cCount {G : Nat} {l : List Int} {e k : Int} (h : CS w G l e) (h0 : -9223372036854775808 ≤ k) (h1 : k ≤ 9223372036854775807) :
    Calls Tryd.prog 20 #[.int .i64 k, .pointer (some ⟨G + 3, 0, none⟩), .pointer (some ⟨G + 2, 0, none⟩)] w fun r w' => r = .returned (.int .i64 (sCount k l e).1) ∧
      CS w' G (sCount k l e).2.1 (sCount k l e).2.2 ∧ Keep [G, G + 1] w w' := by
  have T := Lib.hid (cTake w h)
  obtain ⟨b0, b1⟩ := sTake_bound l e h.wf
  have hok := Lib.hid (@sTake_ok l e)
  have c3 := h.tf.cell 0
  simp at c3
  unfold sCount
  clear h
  generalize sTake l e = t at *
  obtain ⟨N, L, E⟩ := t
  simp only at T b0 b1 hok ⊢
  by_cases hm : max k 0 < N
  · rw [if_pos hm]
    have hE : E = 0 := hok.out (by omega)
    subst hE
    by_cases hk : k < 0
    all_goals
      go_enter Tryd.func20, Tryd.ntmps20
      go_wp2_with (first
        | (go_at_call 19; with_reducible refine T.out.mono ?_; rintro r w' ⟨rfl, hr, hk1⟩; have HR := Lib.hid hr; have c2 := hr.ff.cell 0; simp at c2; clear hr)
        | (go_at_call 18; refine (cFail _ HR.out (by decide)).mono ?_; rintro r w2 ⟨rfl, hr2, hk2⟩; have HR2 := Lib.hid hr2; clear hr2))
      go_ret
      exact ⟨rfl, HR2.out, hk1.trans hk2⟩
  · rw [if_neg hm]
    by_cases hk : k < 0
    all_goals
      go_enter Tryd.func20, Tryd.ntmps20
      go_wp2_with (go_at_call 19; with_reducible refine T.out.mono ?_; rintro r w' ⟨rfl, hr, hk1⟩; have HR := Lib.hid hr; clear hr)
      go_ret
      exact ⟨rfl, HR.out, hk1⟩

set_option maxHeartbeats 1000000 in
theorem cBytes {G : Nat} {l : List Int} {e k : Int} (h : CS w G l e) :
    Calls Tryd.prog 21 #[.int .i64 k, .pointer (some ⟨G + 1, 0, none⟩), .pointer (some ⟨G, 0, none⟩), .pointer (some ⟨G + 2, 0, none⟩)] w fun r w' => ∃ v', r = .returned v' ∧ Sl .u8 w' v' (sNext k l e).1 ∧
      CS w' G (sNext k l e).2.1 (sNext k l e).2.2 ∧ Keep [G, G + 1] w w' := by
  obtain ⟨v, a1, a2⟩ := h.left
  obtain ⟨A, c, rfl⟩ := sl_form a2
  have c0 : w.cell? ⟨G, 0, none⟩ = some (.slice A l.length c) := a1.cell 0
  have c1 : w.cell? ⟨G + 1, 0, none⟩ = some (.int .i64 e) := h.want.cell 0
  have c2 := h.ff.cell 0
  simp at c2
  have f0 := a1.frozen 0
  have H := Lib.hid h
  by_cases he : e = 0
  · subst he
    by_cases hbad : k < 0 ∨ (l.length : Int) < k
    · have hres : sNext k l 0 = ([], [], 3) := by unfold sNext; rw [if_pos hbad]; simp [sFail]
      rw [hres]
      have F := Lib.hid (cFail w H.out (show (3 : Int) ≠ 0 by decide))
      have hf : sFail l 0 3 = ([], 3) := by simp [sFail]
      rw [hf] at F
      clear hres hf a1 a2 h
      rcases hbad with hb | hb
      · go_enter Tryd.func21, Tryd.ntmps21
        go_wp2_with (go_at_call 18; with_reducible refine F.out.mono ?_; rintro e w' ⟨rfl, hr, hk⟩; have HR := Lib.hid hr; clear hr)
        go_ret
        exact ⟨_, rfl, Sl.nil _ _, HR.out, hk⟩
      · have hb' : ¬ k < 0 := by omega
        go_enter Tryd.func21, Tryd.ntmps21
        go_wp2_with (go_at_call 18; with_reducible refine F.out.mono ?_; rintro e w' ⟨rfl, hr, hk⟩; have HR := Lib.hid hr; clear hr)
        go_ret
        exact ⟨_, rfl, Sl.nil _ _, HR.out, hk⟩
    · have hres : sNext k l 0 = (l.take k.toNat, l.drop k.toNat, 0) := by unfold sNext; rw [if_neg hbad]
      rw [hres]
      obtain ⟨n, rfl⟩ : ∃ n : Nat, k = n := ⟨k.toNat, by omega⟩
      rw [Int.toNat_natCast]
      have hnl : n ≤ l.length := by omega
      obtain ⟨A', c', e', hlc, hcm, _⟩ := id a2
      simp only [Value.slice.injEq, true_and] at e'
      obtain ⟨rfl, rfl⟩ := e'
      have HS := Lib.hid a2
      have hne : 0 < (l.take n).length → ∀ b, (Value.slice A n c).ownBlock = some b → b ∉ [G] := fun hp b hb hm => by
        rw [List.length_take] at hp
        exact sl_ne a2 a1 one_cells (by omega) b (by cases A <;> simp_all [Value.ownBlock]) (by simpa using hm)
      have HNE := Lib.hid hne
      clear hbad hres a1 a2 h hne
      go_enter Tryd.func21, Tryd.ntmps21
      go_wp2
      · have hcn : c = n := by assumption
        subst hcn
        go_ret
        refine ⟨_, rfl, (HS.out.take hnl).keep ((Keep.refl _ _).setCell (S := [G]) (p := ⟨G, 0, none⟩) (.inl (by simp)) _) HNE.out, ?_, (Keep.refl _ _).setCell (.inl (by simp)) _⟩
        have hd := HS.out.drop (A' := A) hnl (fun h => by omega)
        rw [Nat.sub_self] at hd
        exact H.out.setLeft hd (fun h => absurd rfl h)
      · go_ret
        refine ⟨_, rfl, (HS.out.take hnl).keep ((Keep.refl _ _).setCell (S := [G]) (p := ⟨G, 0, none⟩) (.inl (by simp)) _) HNE.out, ?_, (Keep.refl _ _).setCell (.inl (by simp)) _⟩
        exact H.out.setLeft (HS.out.drop hnl (fun _ => rfl)) (fun h => absurd rfl h)
  · have hl := h.stop he
    subst hl
    have eb : (e != 0) = true := by simpa using he
    have hres : sNext k [] e = ([], [], e) := by
      unfold sNext sFail
      split
      · simp [he]
      · simp
    rw [hres]
    clear hres a1 a2 h he
    go_enter Tryd.func21, Tryd.ntmps21
    go_wp2
    go_ret
    exact ⟨_, rfl, Sl.nil _ _, H.out, Keep.refl _ _⟩
end
end Go.Proofs.YtaifocfnkhgpoaaDoor
