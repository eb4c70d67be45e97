/-
  Said here: a disk in plain words (DM), what each call makes of it, and what the landed package's calls are to answer over it (DiskOk), the disk's own blocks being F; plain facts on these.
  No conditions but those that each theorem names.
-/
import Derived.Test.YtinlbmlgfneolaaVals
namespace Go.Proofs.Ytinlbmlgfneolaa
open Go.RowKit

/-! ### A disk in plain words -/

/-- How many blocks; of each the contents, the lasting one first, then the open ones; behind how many the power goes (-1: never); is it gone? -/
structure DM where
  n : Nat
  hist : Nat → List (List Int)
  left : Int
  off : Bool

def zeros64 : List Int := List.replicate 64 0
def freshD (n : Nat) : DM := { n := n, hist := fun _ => [zeros64], left := -1, off := false }

def getErr (s : DM) (k : Int) : Int := if s.off = true then 8 else if 0 ≤ k ∧ k < s.n then 0 else 7
def getOut (s : DM) (k : Int) : List Int := if getErr s k = 0 then (s.hist k.toNat).getLastD [] else []
def step1 (s : DM) : DM := { s with left := if 0 < s.left then s.left - 1 else s.left }
def gone (s : DM) : DM := { s with off := true }
def addW (s : DM) (a : Nat) (d : List Int) : DM := { s with hist := fun k => if k = a then s.hist k ++ [d] else s.hist k }
def putAll : DM → List (Int × List Int) → DM × Int
  | s, [] => (s, 0)
  | s, (a, d) :: r => if s.left = 0 then (gone s, 8) else putAll (addW (step1 s) a.toNat d) r
def badLen (ws : List (Int × List Int)) : Bool := ws.any fun p => decide (p.2.length ≠ 64)
def badAt (n : Nat) (ws : List (Int × List Int)) : Bool := ws.any fun p => decide (p.1 < 0 ∨ (n : Int) ≤ p.1)
def putRes (s : DM) (ws : List (Int × List Int)) : DM × Int := if s.off = true then (s, 8) else if badLen ws = true then (s, 1) else if badAt s.n ws = true then (s, 7) else putAll s ws
def lastOnly (s : DM) : DM := { s with hist := fun k => [(s.hist k).getLastD []] }
def barRes (s : DM) : DM × Int := if s.off = true then (s, 8) else if s.left = 0 then (gone s, 8) else (lastOnly (step1 s), 0)
def failed (s : DM) (k : Int) : DM := { s with left := if k < 0 then -1 else k }
def keepAt (h : List (List Int)) (k : Int) : List (List Int) := [h.getD (min k.toNat (h.length - 1)) []]
def restarted (s : DM) (ks : List Int) : DM := { s with hist := fun b => keepAt (s.hist b) (ks.getD b 0), left := -1, off := false }
def openOf (s : DM) (k : Int) : Nat := if 0 ≤ k ∧ k < s.n then (s.hist k.toNat).length - 1 else 0

/-- Each block has contents, each of 64 bytes. -/
def DM.Ok (s : DM) : Prop := ∀ k, s.hist k ≠ [] ∧ ∀ c ∈ s.hist k, c.length = 64 ∧ ∀ z ∈ c, 0 ≤ z ∧ z ≤ 255

/-! ### Memory -/

/-- Of what lay in w nothing has turned but in the blocks F; F' are of these, or new. -/
def Grew (F F' : Nat → Prop) (w w' : World) : Prop :=
  w'.os = w.os ∧ w'.tape = w.tape ∧ w'.output = w.output ∧ w.heap.size ≤ w'.heap.size ∧ (∀ k, k < w.heap.size → ¬ F k → w'.heap[k]? = w.heap[k]?) ∧ ∀ k, F' k → F k ∨ w.heap.size ≤ k

theorem Grew.below {F F' : Nat → Prop} {B : Nat} {w0 w w' : World} (h : Grew F F' w w') (hb : Below B w0 w) (hB : B ≤ w.heap.size) (hF : ∀ k, F k → B ≤ k) : Below B w0 w' :=
  hb.trans ⟨h.1, h.2.1, h.2.2.1, h.2.2.2.1, fun k hk => h.2.2.2.2.1 k (by omega) (fun hf => by have := hF k hf; omega)⟩

/-- A list of writes that came in or was made: its cells, in blocks of G. -/
def ListIs (w : World) (G : Nat → Prop) (ao : Option Addr) (m : Nat) (ws : List (Int × List Int)) : Prop :=
  ws.length = m ∧ m ≤ 140737488351232 ∧ (m = 0 ∨ ∃ b off, ao = some ⟨b, off, none⟩ ∧ G b ∧ ∀ (j : Nat) (a : Int) (zs : List Int), ws[j]? = some (a, zs) → w.cell? ⟨b, off + 2 * j, none⟩ = some (.int .i64 a) ∧ (-9223372036854775808 ≤ a ∧ a ≤ 9223372036854775807) ∧
    ∃ ad len cap, w.cell? ⟨b, off + 2 * j + 1, none⟩ = some (.slice ad len cap) ∧ Arg w ad len cap zs ∧ ∀ b' o s, ad = some ⟨b', o, s⟩ → len ≠ 0 → G b')

/-- A list of numbers, in a block of G. -/
def NumsAre (w : World) (G : Nat → Prop) (ao : Option Addr) (m : Nat) (ks : List Int) : Prop :=
  ks.length = m ∧ (m = 0 ∨ ∃ b off, ao = some ⟨b, off, none⟩ ∧ G b ∧ ∀ (j : Nat) (x : Int), ks[j]? = some x → w.cell? ⟨b, off + j, none⟩ = some (.int .i64 x) ∧ -9223372036854775808 ≤ x ∧ x ≤ 9223372036854775807)

/-! ### What the landed calls are to answer -/

structure DiskOk (DI : World → Addr → (Nat → Prop) → DM → Prop) : Prop where
  lt : ∀ {w a F s}, DI w a F s → ∀ k, F k → k < w.heap.size
  kept : ∀ {w w' a F s}, DI w a F s → (∀ k, F k → w'.heap[k]? = w.heap[k]?) → w.heap.size ≤ w'.heap.size → DI w' a F s
  new_no : ∀ (n : Int) (w : World), (-9223372036854775808 ≤ n ∧ n ≤ 9223372036854775807) → (n < 1 ∨ 480 < n) → Calls Try.prog 8 #[.int .i64 n] w fun e w' => e = .returned (.tuple #[.pointer none, .int .i64 1]) ∧ Below w.heap.size w w'
  new_ok : ∀ (n : Nat) (w : World), 1 ≤ n → n ≤ 480 → Calls Try.prog 8 #[.int .i64 n] w fun e w' => ∃ a F, e = .returned (.tuple #[.pointer (some a), .int .i64 0]) ∧ DI w' a F (freshD n) ∧ (∀ k, F k → w.heap.size ≤ k) ∧ Below w.heap.size w w'
  get : ∀ {w a F s} (n : Int), DI w a F s → (-9223372036854775808 ≤ n ∧ n ≤ 9223372036854775807) → Calls Try.prog 13 #[.pointer (some a), .int .i64 n] w fun e w' => ∃ v, e = .returned (.tuple #[v, .int .i64 (getErr s n)]) ∧ Fresh w' w.heap.size v (getOut s n) ∧ Below w.heap.size w w'
  put : ∀ {w a F s} (G : Nat → Prop) (ao : Option Addr) (m cap : Nat) (ws : List (Int × List Int)), DI w a F s → ListIs w G ao m ws → (∀ k, F k → ¬ G k) → (∀ k, k < s.n → (s.hist k).length + ws.length ≤ 1099511627776) → Calls Try.prog 11 #[.pointer (some a), .slice ao m cap] w fun e w' => ∃ F', e = .returned (.int .i64 (putRes s ws).2) ∧ DI w' a F' (putRes s ws).1 ∧ Grew F F' w w'
  barrier : ∀ {w a F s}, DI w a F s → Calls Try.prog 15 #[.pointer (some a)] w fun e w' => ∃ F', e = .returned (.int .i64 (barRes s).2) ∧ DI w' a F' (barRes s).1 ∧ Grew F F' w w'
  fail : ∀ {w a F s} (n : Int), DI w a F s → (-9223372036854775808 ≤ n ∧ n ≤ 9223372036854775807) → Calls Try.prog 17 #[.pointer (some a), .int .i64 n] w fun e w' => ∃ F', e = .returned (.tuple #[]) ∧ DI w' a F' (failed s n) ∧ Grew F F' w w'
  restart : ∀ {w a F s} (G : Nat → Prop) (ao : Option Addr) (m cap : Nat) (ks : List Int), DI w a F s → NumsAre w G ao m ks → (∀ k, F k → ¬ G k) → Calls Try.prog 18 #[.pointer (some a), .slice ao m cap] w fun e w' => ∃ F', e = .returned (.tuple #[]) ∧ DI w' a F' (restarted s ks) ∧ Grew F F' w w'
  opens : ∀ {w a F s} (n : Int), DI w a F s → (-9223372036854775808 ≤ n ∧ n ≤ 9223372036854775807) → Calls Try.prog 20 #[.pointer (some a), .int .i64 n] w fun e w' => e = .returned (.int .i64 (openOf s n)) ∧ Below w.heap.size w w'
  blocks : ∀ {w a F s}, DI w a F s → Calls Try.prog 21 #[.pointer (some a)] w fun e w' => e = .returned (.int .i64 s.n) ∧ Below w.heap.size w w'

/-- What they are to answer of no disk. -/
structure DiskNil : Prop where
  get : ∀ (n : Int) (w : World), (-9223372036854775808 ≤ n ∧ n ≤ 9223372036854775807) → Calls Try.prog 13 #[.pointer none, .int .i64 n] w fun e w' => ∃ v, e = .returned (.tuple #[v, .int .i64 1]) ∧ Fresh w' w.heap.size v [] ∧ Below w.heap.size w w'
  put : ∀ (ao : Option Addr) (m cap : Nat) (w : World), Calls Try.prog 11 #[.pointer none, .slice ao m cap] w fun e w' => e = .returned (.int .i64 1) ∧ Below w.heap.size w w'
  barrier : ∀ (w : World), Calls Try.prog 15 #[.pointer none] w fun e w' => e = .returned (.int .i64 1) ∧ Below w.heap.size w w'
  fail : ∀ (n : Int) (w : World), (-9223372036854775808 ≤ n ∧ n ≤ 9223372036854775807) → Calls Try.prog 17 #[.pointer none, .int .i64 n] w fun e w' => e = .returned (.tuple #[]) ∧ Below w.heap.size w w'
  restart : ∀ (ao : Option Addr) (m cap : Nat) (w : World), Calls Try.prog 18 #[.pointer none, .slice ao m cap] w fun e w' => e = .returned (.tuple #[]) ∧ Below w.heap.size w w'
  opens : ∀ (n : Int) (w : World), (-9223372036854775808 ≤ n ∧ n ≤ 9223372036854775807) → Calls Try.prog 20 #[.pointer none, .int .i64 n] w fun e w' => e = .returned (.int .i64 0) ∧ Below w.heap.size w w'
  blocks : ∀ (w : World), Calls Try.prog 21 #[.pointer none] w fun e w' => e = .returned (.int .i64 0) ∧ Below w.heap.size w w'

theorem DiskOk.later {DI : World → Addr → (Nat → Prop) → DM → Prop} (H : DiskOk DI) {w w' : World} {a : Addr} {F : Nat → Prop} {s : DM} (h : DI w a F s) (hb : Below w.heap.size w w') : DI w' a F s :=
  H.kept h (fun k hk => hb.block k (H.lt h k hk)) hb.size

theorem cell_of_heap {w w' : World} {p : Addr} (h : w'.heap[p.block]? = w.heap[p.block]?) : w'.cell? p = w.cell? p := World.cell?_of_block (w := w) h

theorem Arg.kept {w w' : World} {ao : Option Addr} {len cap : Nat} {zs : List Int} (h : Arg w ao len cap zs) (hk : ∀ b o s, ao = some ⟨b, o, s⟩ → w'.heap[b]? = w.heap[b]?) : Arg w' ao len cap zs := by
  obtain ⟨⟨h1, h2, h3, h4⟩, h5, h6, h7⟩ := h
  refine ⟨⟨h1, h2, h3, ?_⟩, h5, h6, h7⟩
  rcases h4 with h4 | ⟨b, o, rfl, hc⟩
  · exact Or.inl h4
  · exact Or.inr ⟨b, o, rfl, fun j hj => by rw [cell_of_heap (hk b o none rfl)]; exact hc j hj⟩

theorem list_one {w : World} {T : TypeId} {G : Nat → Prop} {x : Int} {ad : Option Addr} {len cap : Nat} {zs : List Int} (hA : Arg w ad len cap zs) (hx : -9223372036854775808 ≤ x ∧ x ≤ 9223372036854775807) (hg : ∀ b' o s, ad = some ⟨b', o, s⟩ → G b') (hG : G w.heap.size) :
    ListIs (w.alloc (.cells #[.int .i64 x, .slice ad len cap] T)) G (some ⟨w.heap.size, 0, none⟩) 1 [(x, zs)] := by
  refine ⟨rfl, by decide, Or.inr ⟨w.heap.size, 0, rfl, hG, fun j a z hj => ?_⟩⟩
  match j, hj with
  | 0, hj =>
    simp at hj
    obtain ⟨rfl, rfl⟩ := hj
    exact ⟨by simp, hx, ad, len, cap, by simp, hA.later ((Below.refl _ _).alloc (Nat.le_refl _) _), fun b' o s e _ => hg b' o s e⟩
  | j + 1, hj => simp at hj

/-! ### Plain facts -/

theorem fresh_ok (n : Nat) : (freshD n).Ok := fun k => ⟨by simp [freshD], fun c hc => by
  have : c = zeros64 := by simpa [freshD] using hc
  subst this
  exact ⟨by decide, by decide⟩⟩

/-- A number of writes that are sound, on a disk whose power goes behind so many. -/
theorem putAll_left : ∀ (ws : List (Int × List Int)) (s : DM), s.off = false → 0 ≤ s.left →
    ((ws.length : Int) ≤ s.left → (putAll s ws).2 = 0 ∧ (putAll s ws).1.off = false ∧ (putAll s ws).1.left = s.left - ws.length ∧ (putAll s ws).1.n = s.n) ∧ (s.left < ws.length → (putAll s ws).2 = 8 ∧ (putAll s ws).1.off = true ∧ (putAll s ws).1.n = s.n)
  | [], s, h1, h2 => ⟨fun _ => ⟨rfl, h1, by simp [putAll], rfl⟩, fun h => by simp at h; omega⟩
  | (a, d) :: r, s, h1, h2 => by
    show _ ∧ _
    unfold putAll
    by_cases h0 : s.left = 0
    · rw [if_pos h0]
      refine ⟨fun h => ?_, fun _ => ⟨rfl, rfl, rfl⟩⟩
      simp only [List.length_cons] at h
      omega
    · rw [if_neg h0]
      have hs : (addW (step1 s) a.toNat d).left = s.left - 1 := by
        show (if 0 < s.left then s.left - 1 else s.left) = _
        rw [if_pos (by omega)]
      have ih := putAll_left r (addW (step1 s) a.toNat d) h1 (by rw [hs]; omega)
      rw [hs] at ih
      simp only [List.length_cons]
      refine ⟨fun h => ?_, fun h => ?_⟩
      · obtain ⟨i1, i2, i3, i4⟩ := ih.1 (by omega)
        exact ⟨i1, i2, by rw [i3]; omega, by rw [i4]; rfl⟩
      · obtain ⟨i1, i2, i3⟩ := ih.2 (by omega)
        exact ⟨i1, i2, by rw [i3]; rfl⟩

/-- No list of writes lays more contents into a block than it has writes. -/
theorem putAll_hist : ∀ (ws : List (Int × List Int)) (s : DM) (k : Nat), ((putAll s ws).1.hist k).length ≤ (s.hist k).length + ws.length
  | [], s, k => Nat.le_refl _
  | (a, d) :: r, s, k => by
    unfold putAll
    by_cases h0 : s.left = 0
    · rw [if_pos h0]
      show (s.hist k).length ≤ _
      omega
    · rw [if_neg h0]
      have ih := putAll_hist r (addW (step1 s) a.toNat d) k
      have e : ((addW (step1 s) a.toNat d).hist k).length ≤ (s.hist k).length + 1 := by
        show (if k = a.toNat then s.hist k ++ [d] else s.hist k).length ≤ _
        by_cases ek : k = a.toNat
        · rw [if_pos ek, List.length_append]; exact Nat.le_refl _
        · rw [if_neg ek]; omega
      rw [List.length_cons]
      omega

end Go.Proofs.Ytinlbmlgfneolaa
