/-
  Arrays of bytes by value: held against each other; one that comes in as an argument.
-/
import Derived.Test.YtpckbmebdhmfaaaArr
import Derived.DeepKeys
import Derived.OpenShut
import Derived.WideShapes
namespace Go.Proofs.Ytpckbmebdhmfaaa
open Go.RowKit

section
variable {P : Program}
theorem mapM_some {α β : Type} (f : α → Option β) (g : α → β) : ∀ l : List α, (∀ x ∈ l, f x = some (g x)) → l.mapM f = some (l.map g)
  | [], _ => rfl
  | x :: l, h => by
    rw [List.mapM_cons, h x (by simp), mapM_some f g l (fun y hy => h y (by simp [hy]))]
    rfl
theorem flat_single {α β : Type} (g : α → β) (l : List α) : (l.map fun x => [g x]).flatten = l.map g := by
  induction l with
  | nil => rfl
  | cons x l ih => simp [ih]
theorem keyLits_arr {t e : TypeId} {n d : Nat} {k : IntKind} (ht : P.underlying t = some (.array n e)) (he : P.underlying e = some (.int k)) (hc : P.cellsOf e = 1) (hct : P.cellsOf t = n) (l : List Int) (hl : l.length = n) (hw : ∀ x ∈ l, (Lit.int k x).wf = true) :
    P.keyLits (d + 2) t (l.map (Value.int k)) = some (l.map (Lit.int k)) := by
  unfold Program.keyLits
  rw [ht]
  simp only [List.length_map, hl, hct, if_true, hc, Nat.mul_one]
  have hm : (List.range n).mapM (fun i => P.keyLits (d + 1) e (List.take 1 (List.drop i (l.map (Value.int k))))) = some ((List.range n).map fun i => [Lit.int k (l.getD i 0)]) := by
    refine mapM_some _ _ _ fun i hi => ?_
    have hi' : i < l.length := by rw [hl]; simpa using hi
    have hd : List.take 1 (List.drop i (l.map (Value.int k))) = [.int k (l.getD i 0)] := by
      rw [List.drop_eq_getElem_cons (by simpa using hi')]
      simp [hi']
    rw [hd]
    unfold Program.keyLits
    rw [he]
    have hwi := wf_getD hw i hi'
    simp only [List.getD_eq_getElem?_getD, hwi, and_self, if_true]
  rw [hm]
  simp only [Option.map_some]
  rw [flat_single]
  congr 1
  apply List.ext_getElem?
  intro i
  by_cases hi : i < n
  · simp [hi, hl]
  · simp [hi, show l.length ≤ i by omega]
/-- Two arrays, held against each other. -/
theorem run_eq_arr {t e : TypeId} {n : Nat} (m : Nat) (ht : P.underlying t = some (.array n e)) (he : P.underlying e = some (.int .u8)) (hc : P.cellsOf e = 1) (hct : P.cellsOf t = n) (hkt : P.keyTypeAt m t = true) (d : Nat) (l k : List Int) (hl : l.length = n) (hk : k.length = n)
    (hlw : ∀ x ∈ l, (Lit.int .u8 x).wf = true) (hkw : ∀ x ∈ k, (Lit.int .u8 x).wf = true) (W : World) :
    (Op.equalIn (d + m) t (.agg (l.map (Value.int .u8)).toArray) (.agg (k.map (Value.int .u8)).toArray)).run P W = .ok (decide (l = k)) W := by
  obtain ⟨r, hr, hi⟩ := run_equalIn_deep (P := P) d m t hkt W 2 2 (.agg (l.map (Value.int .u8)).toArray) (.agg (k.map (Value.int .u8)).toArray) (l.map (Lit.int .u8)) (k.map (Lit.int .u8))
    (by simp [Value.formed, ht, hct, hl]) (by simp [Value.formed, ht, hct, hk]) (keyLits_arr (d := 0) ht he hc hct l hl hlw) (keyLits_arr (d := 0) ht he hc hct k hk hkw)
  have hinj : (l.map (Lit.int .u8) = k.map (Lit.int .u8)) ↔ l = k := by
    constructor
    · intro h
      have := congrArg (List.map fun x => match x with | Lit.int _ n => n | _ => 0) h
      simpa [List.map_map, Function.comp_def] using this
    · rintro rfl; rfl
  rw [hinj] at hi
  rw [hr]
  congr 1
  cases r
  · by_cases h : l = k
    · exact absurd (hi.2 h) (by simp)
    · simp [h]
  · simp [hi.1 rfl]
/-- A number's number. -/
def num : Value → Int
  | .int _ n => n
  | _ => 0
/-- An array of numbers that came in. -/
theorem arr_open {H : Type} {enc : TypeId × Value → H} {w : World} {b0 base : Nat} {r : Reach} {spare : Nat → Bool} {held : Bool} {t e : TypeId} {k : IntKind} {n : Nat} {v : Value} {d : DataW H} {p : List MemPlace}
    (ht : P.underlying t = some (.array n e)) (he : P.underlying e = some (.int k)) (hc : P.cellsOf e = 1) (hct : P.cellsOf t = n) (hv : Value.okWide P w r b0 t v) (h : DataW.Trod enc P w base spare held t v d p) :
    ∃ l : List Int, v = .agg (l.map (Value.int k)).toArray ∧ l.length = n ∧ ∀ x ∈ l, (Lit.int k x).wf = true := by
  unfold Value.okWide at hv
  rw [ht] at hv
  obtain ⟨cs, rfl, hsz, -⟩ := hv
  obtain ⟨fuel, hf⟩ := h
  obtain ⟨xs, m, rfl, -, hlen, hxl, hel⟩ := DataW.trod_array ht hf
  simp only [Value.cells] at hlen hel
  have hone : ∀ i, i < n → ∃ y : Int, cs.toList[i]? = some (.int k y) ∧ (Lit.int k y).wf = true := by
    intro i hi
    have h1 := hel i hi
    rw [hc, Nat.mul_one, List.getElem?_eq_getElem (by omega)] at h1
    cases m with
    | zero => simp [DataW.trod] at h1
    | succ m =>
      unfold DataW.trod at h1
      rw [he] at h1
      split at h1 <;> simp_all
      rename_i y he1 hcs
      have h2 := congrArg (fun L => L[0]?) hcs
      simp only [List.getElem?_take, List.getElem?_drop, Nat.add_zero, Array.getElem?_toList] at h2
      rw [if_pos Nat.zero_lt_one] at h2
      refine ⟨y, ?_, h1.1.2⟩
      first | exact h2 | exact (Array.getElem?_eq_some_iff.1 h2).2
  refine ⟨cs.toList.map num, ?_, by rw [List.length_map, Array.length_toList, hsz, hct], ?_⟩
  · congr 1
    apply Array.toList_inj.1
    apply List.ext_getElem?
    intro i
    by_cases hi : i < n
    · obtain ⟨y, hy, _⟩ := hone i hi
      rw [List.map_map, List.getElem?_map, hy]
      rfl
    · rw [List.getElem?_eq_none (by rw [Array.length_toList]; omega), List.getElem?_eq_none (by simp; omega)]
  · intro x hx
    simp only [List.mem_map] at hx
    obtain ⟨v, hv, rfl⟩ := hx
    obtain ⟨i, hi, rfl⟩ := List.getElem_of_mem hv
    obtain ⟨y, hy, hw⟩ := hone i (by rw [Array.length_toList] at hi; omega)
    rw [List.getElem?_eq_getElem hi, Option.some.injEq] at hy
    rw [hy]
    exact hw
/-- A struct or array by value, its cells named. -/
theorem wl_build {ops : Array Oper} {rest : List Oper} {o : Oper} {a : Act} {w : World} {Q : Exit → Act → World → Prop} (hg : o.guard = none) (t : TypeId) (parts : Array (Nat × Operand)) (ho : o.op = .build t parts)
    (C : Array Value) (l : List (Nat × Value)) (hl : (parts.map fun (i, x) => (i, a.eval x)).toList = l) (hf : P.built t l = some C)
    (h : wpList P ops Q rest (a.put o.dst (.agg C)) w) : wpList P ops Q (o :: rest) a w := by
  subst hl
  exact wpList_build hg t parts ho (by rw [hf]; rfl) (by rw [hf]; exact h)
/-- A value of many cells into a new block. -/
theorem wl_box {ops : Array Oper} {rest : List Oper} {o : Oper} {a : Act} {w : World} {Q : Exit → Act → World → Prop} (hg : o.guard = none) (t : TypeId) (x : Operand) (ho : o.op = .box t x)
    (C : Array Value) (hx : a.eval x = .agg C)
    (h : ∀ w', Blk w' w.heap.size t C → Keep [] w w' → w'.heap.size = w.heap.size + 1 → wpList P ops Q rest (a.put o.dst (.pointer (some ⟨w.heap.size, 0, none⟩))) w') : wpList P ops Q (o :: rest) a w := by
  refine wpList_plain hg fun K hK => ?_
  unfold Oper.wp execOp
  simp only [ho, hx, Instr.box, newVar, newRow, newObj, Sem.run_bind, Sem.run_pure]
  simp [go_sem]
  exact hK _ _ (h (w.alloc (.cells C t)) (Blk.new _ _ _) ((Keep.refl _ _).alloc _) (by simp))
/-- A whole array out of a block of its own, in a region with guards. -/
theorem wl_load_rowG {ops : Array Oper} {rest : List Oper} {o : Oper} {a : Act} {w : World} {Q : Exit → Act → World → Prop} (hw : Region.wanted o (yielded ops a.tmps) = true) (t : TypeId) (p : Operand) (ho : o.op = .load t p)
    (g : Nat) (hp : a.eval p = .pointer (some ⟨g, 0, none⟩)) (n : Nat) (e : TypeId) (hu : P.underlying t = some (.array n e)) (tt : TypeId) (c : Array Value) (hB : Blk w g tt c) (hi : (P.info? t).map (·.size) = some c.size)
    (h : wpList P ops Q rest (a.put o.dst (.agg c)) w) : wpList P ops Q (o :: rest) a w := by
  refine wpList_step fun K hK => ?_
  rw [if_pos hw]
  unfold Oper.wp execOp
  simp only [ho, hp, Instr.loadAt, Instr.sureAddr, Sem.run_bind, Sem.run_pure, Result.andThen_ok, run_loadVar_row w g tt t c (0, 0) _ hB hu rfl hi]
  exact hK _ _ h
end
end Go.Proofs.Ytpckbmebdhmfaaa
