/-
  What lies in the cells of aes' objects; what those who call it ask of New, Key and Turn.
-/
import Derived.Test.YtlkjngbelckgkaaAesT
namespace Go.Proofs.Ytlkjngbelckgkaa
open Go.RowKit

/-- The cells of the tables: done, the lock, the lock's waiting ones, the box, how many were turned. -/
def tcs5 (d m : Value) (B : List Nat) (n : Int) : Array Value := (d :: m :: .int .u32 0 :: ((B.map fun (x : Nat) => Value.int .u8 x) ++ [.int .i64 n])).toArray
def boxes : List Nat := (List.range 256).map Aes.box
/-- The tables at g, the box computed, so many blocks having been turned. -/
def AT (w : World) (g n : Nat) : Prop := Blk w g 65 (tcs5 (.int .u32 1) (.int .i32 0) boxes n)
/-- The tables at g, the box computed or not. -/
def AF (w : World) (g n : Nat) : Prop := AT w g n ∨ (n = 0 ∧ Blk w g 65 (tcs5 (.int .u32 0) (.int .i32 0) (List.replicate 256 0) 0))
/-- The cells of a key, its tables being those at g. -/
def kcs5 (g : Nat) (key : List Int) : Array Value := (.pointer (some ⟨g, 0, none⟩) :: (Aes.keys key 40).map (Value.int .u8)).toArray
/-- The key at p, with the tables at g. -/
def AK (w : World) (p g : Nat) (key : List Int) : Prop := p ≠ g ∧ Blk w p 75 (kcs5 g key)
theorem AT.keep {w w' : World} {g n : Nat} {S : List Nat} (h : AT w g n) (k : Keep S w w') (hg : g ∉ S) : AT w' g n := Blk.keep h k hg
theorem AT.lt {w : World} {g n : Nat} (h : AT w g n) : g < w.heap.size := Blk.lt h
theorem AT.af {w : World} {g n : Nat} (h : AT w g n) : AF w g n := .inl h
theorem AF.keep {w w' : World} {g n : Nat} {S : List Nat} (h : AF w g n) (k : Keep S w w') (hg : g ∉ S) : AF w' g n := by
  rcases h with h | ⟨h1, h2⟩
  · exact .inl (h.keep k hg)
  · exact .inr ⟨h1, h2.keep k hg⟩
theorem AF.lt {w : World} {g n : Nat} (h : AF w g n) : g < w.heap.size := by
  rcases h with h | ⟨_, h⟩
  · exact h.lt
  · exact h.lt
theorem AK.keep {w w' : World} {p g : Nat} {key : List Int} {S : List Nat} (h : AK w p g key) (k : Keep S w w') (hg : p ∉ S) : AK w' p g key := ⟨h.1, h.2.keep k hg⟩
theorem AK.lt {w : World} {p g : Nat} {key : List Int} (h : AK w p g key) : p < w.heap.size := h.2.lt
theorem AK.ne {w : World} {p g : Nat} {key : List Int} (h : AK w p g key) : p ≠ g := h.1
/-- A block of sixteen bytes. -/
def B16 (l : List Int) : Prop := l.length = 16 ∧ ∀ x ∈ l, (Lit.int .u8 x).wf = true

def ANewC : Prop := ∀ w : World, Calls Try.prog 7 #[] w fun e w' => ∃ g, e = .returned (.pointer (some ⟨g, 0, none⟩)) ∧ w.heap.size ≤ g ∧ AF w' g 0 ∧ Keep [] w w'
def AKeyC : Prop := ∀ (w : World) (g n : Nat) (k : List Int), AF w g n → B16 k → Calls Try.prog 12 #[.pointer (some ⟨g, 0, none⟩), arr k] w fun e w' => ∃ p, e = .returned (.pointer (some ⟨p, 0, none⟩)) ∧ w.heap.size ≤ p ∧ AK w' p g k ∧ AT w' g n ∧ Keep [g] w w'
def ATurnC : Prop := ∀ (w : World) (p g n : Nat) (k b : List Int), AK w p g k → AT w g n → n ≤ 1000000 → B16 k → B16 b → Calls Try.prog 14 #[.pointer (some ⟨p, 0, none⟩), arr b] w fun e w' => e = .returned (arr (Aes.turn k b)) ∧ AT w' g (n + 1) ∧ Keep [g] w w'

theorem blk16 : ∃ Z : Array Value, Z = (List.replicate 16 (Value.int .u8 0)).toArray ∧ Z.size = 16 ∧ (Try.prog.info? 23).map (fun i => (i.zero, i.size)) = some (some (.agg Z), 16) := ⟨_, rfl, by kernel_rfl, by kernel_rfl⟩
theorem blkCells : (Try.prog.info? 23).map (·.size) = some 16 := by kernel_rfl
theorem arr_agg (l : List Int) : arr l = .agg (l.map (Value.int .u8)).toArray := rfl
theorem turn_b16 {k b : List Int} (hk : B16 k) (hb : B16 b) : B16 (Aes.turn k b) := ⟨Aes.turn_length k b, Aes.turn_wf hk.2 hb.2⟩
end Go.Proofs.Ytlkjngbelckgkaa
