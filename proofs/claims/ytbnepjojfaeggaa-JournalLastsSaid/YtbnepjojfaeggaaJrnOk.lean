/-
  Said here: what a journal is to answer for the laws of layer 16: over disks in plain words (DM), by plain functions of its own.
  Nothing is proved of the program here.
-/
import Derived.Test.YtbnepjojfaeggaaA10
import Derived.Test.YtbnepjojfaeggaaA5
import Derived.Test.YtbnepjojfaeggaaRef16P
namespace Go.Proofs.Ytbnepjojfaeggaa
open Go.RowKit
set_option linter.unusedVariables false

/-- A journal in plain words: what each call makes of a disk and of the journal, and what it answers. -/
structure JM where
  S : Type
  openP : DM → DM × Option S × Int
  lookP : DM → List (List Int) × Int
  commitP : DM → S → List (Int × List Int) → DM × S × Int
  readP : DM → S → Int → List Int × Int
  headP : S → Int × Int

/-- No block of a disk has more open writes than any run makes. -/
def smallD (d : DM) : Prop := ∀ k, (d.hist k).length ≤ 1000000000

/-- Rows of bytes in new memory: blocks from base on. -/
def RowsNew (w : World) (base : Nat) (ao : Option Addr) (len cap : Nat) (Z : List (List Int)) : Prop :=
  Z.length = len ∧ len ≤ cap ∧ (len = 0 ∨ ∃ b off, ao = some ⟨b, off, none⟩ ∧ base ≤ b ∧ ∀ j, j < len → ∃ ad l c, w.cell? ⟨b, off + j, none⟩ = some (.slice ad l c) ∧ Bts w ad l (Z.getD j []) ∧ l ≤ c ∧ ∀ b' o s, ad = some ⟨b', o, s⟩ → l ≠ 0 → base ≤ b')
theorem RowsNew.rows {w : World} {base : Nat} {ao : Option Addr} {len cap : Nat} {Z : List (List Int)} (h : RowsNew w base ao len cap Z) : RowsIn w ao len cap Z :=
  ⟨h.1, h.2.1, h.2.2.imp_right (fun ⟨b, off, e, _, hc⟩ => ⟨b, off, e, fun j hj => by obtain ⟨ad, l, c, h1, h2, h3, _⟩ := hc j hj; exact ⟨ad, l, c, h1, h2, h3⟩⟩)⟩
theorem RowsNew.kept {w w' : World} {base : Nat} {ao : Option Addr} {len cap : Nat} {Z : List (List Int)} (h : RowsNew w base ao len cap Z) (hk : ∀ k, base ≤ k → k < w.heap.size → w'.heap[k]? = w.heap[k]?) : RowsNew w' base ao len cap Z := by
  refine ⟨h.1, h.2.1, h.2.2.imp_right ?_⟩
  rintro ⟨b, off, e, hb, hc⟩
  refine ⟨b, off, e, hb, fun j hj => ?_⟩
  obtain ⟨ad, l, c, h1, ⟨q1, q2, q3, q4⟩, h3, h4⟩ := hc j hj
  refine ⟨ad, l, c, ?_, ⟨q1, q2, q3, ?_⟩, h3, h4⟩
  · rw [cell_of_heap (p := ⟨b, off + j, none⟩) (hk b hb (World.block_lt_of_cell? _ _ h1))]; exact h1
  · rcases q4 with q4 | ⟨b', o', rfl, hz⟩
    · exact Or.inl q4
    · by_cases hl : l = 0
      · exact Or.inl hl
      · exact Or.inr ⟨b', o', rfl, fun i hi => by rw [cell_of_heap (p := ⟨b', o' + i, none⟩) (hk b' (h4 b' o' none rfl hl) (World.block_lt_of_cell? _ _ (hz i hi)))]; exact hz i hi⟩

structure JournalOk (M : JM) (JI : World → Addr → Addr → (Nat → Prop) → M.S → Prop) : Prop where
  lt : ∀ {w j a G s}, JI w j a G s → ∀ k, G k → k < w.heap.size
  kept : ∀ {w w' j a G s}, JI w j a G s → (∀ k, G k → w'.heap[k]? = w.heap[k]?) → w.heap.size ≤ w'.heap.size → JI w' j a G s
  opens : ∀ {w a F d}, DI w a F d → smallD d → Calls Try.prog 17 #[.pointer (some a)] w fun e w' => ∃ F' p, e = .returned (.tuple #[.pointer p, .int .i64 (M.openP d).2.2]) ∧ DI w' a F' (M.openP d).1 ∧ Grew F F' w w' ∧
    ((M.openP d).2.1 = none → p = none) ∧ (∀ s, (M.openP d).2.1 = some s → ∃ j G, p = some j ∧ JI w' j a G s ∧ (∀ k, G k → w.heap.size ≤ k) ∧ ∀ k, G k → ¬ F' k)
  read : ∀ {w j a F G d s} (n : Int), DI w a F d → JI w j a G s → I64 n → (M.readP d s n).2 ≠ 8 → Calls Try.prog 18 #[.pointer (some j), .int .i64 n] w fun e w' => ∃ v, e = .returned (.tuple #[v, .int .i64 (M.readP d s n).2]) ∧ Fresh w' w.heap.size v (M.readP d s n).1 ∧ Below w.heap.size w w'
  head : ∀ {w j a G s}, JI w j a G s → Calls Try.prog 20 #[.pointer (some j)] w fun e w' => e = .returned (.agg #[.int .i64 (M.headP s).1, .int .i64 (M.headP s).2]) ∧ Below w.heap.size w w'
  look : ∀ {w a F d}, DI w a F d → smallD d → Calls Try.prog 21 #[.pointer (some a)] w fun e w' => ∃ ao len cap, e = .returned (.tuple #[.slice ao len cap, .int .i64 (M.lookP d).2]) ∧ RowsNew w' w.heap.size ao len cap (M.lookP d).1 ∧ Below w.heap.size w w'
  commit : ∀ {w j a F G d s} (H : Nat → Prop) (lo : Option Addr) (ll lc : Nat) (ws : List (Int × List Int)), DI w a F d → JI w j a G s → (∀ k, F k → ¬ G k) → ListIs w H lo ll ws → (∀ k, F k → ¬ H k) → (∀ k, G k → ¬ H k) → smallD d →
    Calls Try.prog 9 #[.pointer (some j), .slice lo ll lc] w fun e w' => ∃ F' G', e = .returned (.int .i64 (M.commitP d s ws).2.2) ∧ DI w' a F' (M.commitP d s ws).1 ∧ JI w' j a G' (M.commitP d s ws).2.1 ∧ (∀ k, F' k → ¬ G' k) ∧ Grew (fun k => F k ∨ G k) (fun k => F' k ∨ G' k) w w'

/-- What it is to answer of no journal. -/
structure JournalNil : Prop where
  opens : ∀ w : World, Calls Try.prog 17 #[.pointer none] w fun e w' => e = .returned (.tuple #[.pointer none, .int .i64 1]) ∧ Below w.heap.size w w'
  look : ∀ w : World, Calls Try.prog 21 #[.pointer none] w fun e w' => ∃ ao len cap, e = .returned (.tuple #[.slice ao len cap, .int .i64 1]) ∧ Below w.heap.size w w'
  read : ∀ (n : Int) (w : World), I64 n → Calls Try.prog 18 #[.pointer none, .int .i64 n] w fun e w' => ∃ v, e = .returned (.tuple #[v, .int .i64 1]) ∧ Fresh w' w.heap.size v [] ∧ Below w.heap.size w w'
  head : ∀ w : World, Calls Try.prog 20 #[.pointer none] w fun e w' => e = .returned (.agg #[.int .i64 0, .int .i64 0]) ∧ Below w.heap.size w w'
  commit : ∀ (lo : Option Addr) (ll lc : Nat) (w : World), Calls Try.prog 9 #[.pointer none, .slice lo ll lc] w fun e w' => e = .returned (.int .i64 1) ∧ Below w.heap.size w w'

end Go.Proofs.Ytbnepjojfaeggaa
