/-
  Said here: a disk in plain words (DM), what each call makes of it, and what the landed package's calls are to answer over it (DiskOk), the disk's own blocks being F; plain facts on these. No conditions but those that each theorem names. Proved here: what the small methods of the landed disk answer: Blocks, has, ready, Open, Fail, holds. The conditions stand at each theorem. Proved here: what the landed disk's cells answer: the last contents of one (last), what it is when it has settled (settle). The conditions stand at each theorem. Proved here: what a cell of the landed disk is when it has settled. The conditions stand at each theorem. Proved here: where the landed disk lies (DI), that it stays so while its own blocks do, and what New, Get, Open, Blocks and Fail answer. The conditions stand at each theorem. Proved here: what New and Get of the landed disk answer, and what no disk does. The conditions stand at each theorem. Proved here: what Get of the landed disk answers. The conditions stand at each theorem. Proved here: what Barrier and Restart of the landed disk make of it. The conditions stand at each theorem. Proved here: what Restart of the landed disk makes of it. The conditions stand at each theorem.
-/
import Derived.Test.YtbnepjojfaeggaaA1
import Derived.Deep.MidRow
import Derived.Deep.RegionHeld3
import Derived.Deep.QuietTactic
import Derived.BigQuiet
import Derived.StillTailTactics
import Derived.Deep.AppendLies
import Derived.Laws.ResultCell
namespace Go.Proofs.Ytbnepjojfaeggaa
open Go.RowKit

/-! ### A disk in plain words -/

/-- How many blocks; of each the contents, the lasting one first, then the open ones; behind how many the power goes (-1: never); is it gone? -/
structure DM where
  n : Nat
  hist : Nat → List (List Int)
  left : Int
  off : Bool

def zeros64 : List Int := List.replicate 64 0
def freshD (n : Nat) : DM := { n := n, hist := fun _ => [zeros64], left := -1, off := false }

def diskErr (s : DM) (k : Int) : Int := if s.off = true then 8 else if 0 ≤ k ∧ k < s.n then 0 else 7
def diskOut (s : DM) (k : Int) : List Int := if diskErr s k = 0 then (s.hist k.toNat).getLastD [] else []
def step1 (s : DM) : DM := { s with left := if 0 < s.left then s.left - 1 else s.left }
def gone (s : DM) : DM := { s with off := true }
def addW (s : DM) (a : Nat) (d : List Int) : DM := { s with hist := fun k => if k = a then s.hist k ++ [d] else s.hist k }
def putAll : DM → List (Int × List Int) → DM × Int
  | s, [] => (s, 0)
  | s, (a, d) :: r => if s.left = 0 then (gone s, 8) else putAll (addW (step1 s) a.toNat d) r
def badLen (ws : List (Int × List Int)) : Bool := ws.any fun p => decide (p.2.length ≠ 64)
def badAt (n : Nat) (ws : List (Int × List Int)) : Bool := ws.any fun p => decide (p.1 < 0 ∨ (n : Int) ≤ p.1)
def putRes (s : DM) (ws : List (Int × List Int)) : DM × Int := if s.off = true then (s, 8) else if badLen ws = true then (s, 1) else if badAt s.n ws = true then (s, 7) else putAll s ws
def lastOnly (s : DM) : DM := { s with hist := fun k => [(s.hist k).getLastD []] }
def barRes (s : DM) : DM × Int := if s.off = true then (s, 8) else if s.left = 0 then (gone s, 8) else (lastOnly (step1 s), 0)
def failed (s : DM) (k : Int) : DM := { s with left := if k < 0 then -1 else k }
def keepAt (h : List (List Int)) (k : Int) : List (List Int) := [h.getD (min k.toNat (h.length - 1)) []]
def restarted (s : DM) (ks : List Int) : DM := { s with hist := fun b => keepAt (s.hist b) (ks.getD b 0), left := -1, off := false }
def openOf (s : DM) (k : Int) : Nat := if 0 ≤ k ∧ k < s.n then (s.hist k.toNat).length - 1 else 0

/-- Each block has contents, each of 64 bytes. -/
def DM.Ok (s : DM) : Prop := ∀ k, s.hist k ≠ [] ∧ ∀ c ∈ s.hist k, c.length = 64 ∧ ∀ z ∈ c, 0 ≤ z ∧ z ≤ 255

/-! ### Memory -/

/-- Of what lay in w nothing has turned but in the blocks F; F' are of these, or new. -/
def Grew (F F' : Nat → Prop) (w w' : World) : Prop :=
  w'.os = w.os ∧ w'.tape = w.tape ∧ w'.output = w.output ∧ w.heap.size ≤ w'.heap.size ∧ (∀ k, k < w.heap.size → ¬ F k → w'.heap[k]? = w.heap[k]?) ∧ ∀ k, F' k → F k ∨ w.heap.size ≤ k

theorem Grew.below {F F' : Nat → Prop} {B : Nat} {w0 w w' : World} (h : Grew F F' w w') (hb : Below B w0 w) (hB : B ≤ w.heap.size) (hF : ∀ k, F k → B ≤ k) : Below B w0 w' :=
  hb.trans ⟨h.1, h.2.1, h.2.2.1, h.2.2.2.1, fun k hk => h.2.2.2.2.1 k (by omega) (fun hf => by have := hF k hf; omega)⟩

/-- A list of writes that came in or was made: its cells, in blocks of G. -/
def ListIs (w : World) (G : Nat → Prop) (ao : Option Addr) (m : Nat) (ws : List (Int × List Int)) : Prop :=
  ws.length = m ∧ m ≤ 140737488351232 ∧ (m = 0 ∨ ∃ b off, ao = some ⟨b, off, none⟩ ∧ G b ∧ ∀ (j : Nat) (a : Int) (zs : List Int), ws[j]? = some (a, zs) → w.cell? ⟨b, off + 2 * j, none⟩ = some (.int .i64 a) ∧ (-9223372036854775808 ≤ a ∧ a ≤ 9223372036854775807) ∧
    ∃ ad len cap, w.cell? ⟨b, off + 2 * j + 1, none⟩ = some (.slice ad len cap) ∧ Arg w ad len cap zs ∧ ∀ b' o s, ad = some ⟨b', o, s⟩ → len ≠ 0 → G b')

/-- A list of numbers, in a block of G. -/
def NumsAre (w : World) (G : Nat → Prop) (ao : Option Addr) (m : Nat) (ks : List Int) : Prop :=
  ks.length = m ∧ (m = 0 ∨ ∃ b off, ao = some ⟨b, off, none⟩ ∧ G b ∧ ∀ (j : Nat) (x : Int), ks[j]? = some x → w.cell? ⟨b, off + j, none⟩ = some (.int .i64 x) ∧ -9223372036854775808 ≤ x ∧ x ≤ 9223372036854775807)

/-! ### What the landed calls are to answer -/

structure DiskOk (DI : World → Addr → (Nat → Prop) → DM → Prop) : Prop where
  lt : ∀ {w a F s}, DI w a F s → ∀ k, F k → k < w.heap.size
  kept : ∀ {w w' a F s}, DI w a F s → (∀ k, F k → w'.heap[k]? = w.heap[k]?) → w.heap.size ≤ w'.heap.size → DI w' a F s
  new_no : ∀ (n : Int) (w : World), (-9223372036854775808 ≤ n ∧ n ≤ 9223372036854775807) → (n < 1 ∨ 480 < n) → Calls Try.prog 19 #[.int .i64 n] w fun e w' => e = .returned (.tuple #[.pointer none, .int .i64 1]) ∧ Below w.heap.size w w'
  new_ok : ∀ (n : Nat) (w : World), 1 ≤ n → n ≤ 480 → Calls Try.prog 19 #[.int .i64 n] w fun e w' => ∃ a F, e = .returned (.tuple #[.pointer (some a), .int .i64 0]) ∧ DI w' a F (freshD n) ∧ (∀ k, F k → w.heap.size ≤ k) ∧ Below w.heap.size w w'
  get : ∀ {w a F s} (n : Int), DI w a F s → (-9223372036854775808 ≤ n ∧ n ≤ 9223372036854775807) → Calls Try.prog 38 #[.pointer (some a), .int .i64 n] w fun e w' => ∃ v, e = .returned (.tuple #[v, .int .i64 (diskErr s n)]) ∧ Fresh w' w.heap.size v (diskOut s n) ∧ Below w.heap.size w w'
  put : ∀ {w a F s} (G : Nat → Prop) (ao : Option Addr) (m cap : Nat) (ws : List (Int × List Int)), DI w a F s → ListIs w G ao m ws → (∀ k, F k → ¬ G k) → (∀ k, k < s.n → (s.hist k).length + ws.length ≤ 1099511627776) → Calls Try.prog 23 #[.pointer (some a), .slice ao m cap] w fun e w' => ∃ F', e = .returned (.int .i64 (putRes s ws).2) ∧ DI w' a F' (putRes s ws).1 ∧ Grew F F' w w'
  barrier : ∀ {w a F s}, DI w a F s → Calls Try.prog 26 #[.pointer (some a)] w fun e w' => ∃ F', e = .returned (.int .i64 (barRes s).2) ∧ DI w' a F' (barRes s).1 ∧ Grew F F' w w'
  fail : ∀ {w a F s} (n : Int), DI w a F s → (-9223372036854775808 ≤ n ∧ n ≤ 9223372036854775807) → Calls Try.prog 12 #[.pointer (some a), .int .i64 n] w fun e w' => ∃ F', e = .returned (.tuple #[]) ∧ DI w' a F' (failed s n) ∧ Grew F F' w w'
  restart : ∀ {w a F s} (G : Nat → Prop) (ao : Option Addr) (m cap : Nat) (ks : List Int), DI w a F s → NumsAre w G ao m ks → (∀ k, F k → ¬ G k) → Calls Try.prog 16 #[.pointer (some a), .slice ao m cap] w fun e w' => ∃ F', e = .returned (.tuple #[]) ∧ DI w' a F' (restarted s ks) ∧ Grew F F' w w'
  opens : ∀ {w a F s} (n : Int), DI w a F s → (-9223372036854775808 ≤ n ∧ n ≤ 9223372036854775807) → Calls Try.prog 24 #[.pointer (some a), .int .i64 n] w fun e w' => e = .returned (.int .i64 (openOf s n)) ∧ Below w.heap.size w w'
  blocks : ∀ {w a F s}, DI w a F s → Calls Try.prog 54 #[.pointer (some a)] w fun e w' => e = .returned (.int .i64 s.n) ∧ Below w.heap.size w w'

/-- What they are to answer of no disk. -/
structure DiskNil : Prop where
  get : ∀ (n : Int) (w : World), (-9223372036854775808 ≤ n ∧ n ≤ 9223372036854775807) → Calls Try.prog 38 #[.pointer none, .int .i64 n] w fun e w' => ∃ v, e = .returned (.tuple #[v, .int .i64 1]) ∧ Fresh w' w.heap.size v [] ∧ Below w.heap.size w w'
  put : ∀ (ao : Option Addr) (m cap : Nat) (w : World), Calls Try.prog 23 #[.pointer none, .slice ao m cap] w fun e w' => e = .returned (.int .i64 1) ∧ Below w.heap.size w w'
  barrier : ∀ (w : World), Calls Try.prog 26 #[.pointer none] w fun e w' => e = .returned (.int .i64 1) ∧ Below w.heap.size w w'
  fail : ∀ (n : Int) (w : World), (-9223372036854775808 ≤ n ∧ n ≤ 9223372036854775807) → Calls Try.prog 12 #[.pointer none, .int .i64 n] w fun e w' => e = .returned (.tuple #[]) ∧ Below w.heap.size w w'
  restart : ∀ (ao : Option Addr) (m cap : Nat) (w : World), Calls Try.prog 16 #[.pointer none, .slice ao m cap] w fun e w' => e = .returned (.tuple #[]) ∧ Below w.heap.size w w'
  opens : ∀ (n : Int) (w : World), (-9223372036854775808 ≤ n ∧ n ≤ 9223372036854775807) → Calls Try.prog 24 #[.pointer none, .int .i64 n] w fun e w' => e = .returned (.int .i64 0) ∧ Below w.heap.size w w'
  blocks : ∀ (w : World), Calls Try.prog 54 #[.pointer none] w fun e w' => e = .returned (.int .i64 0) ∧ Below w.heap.size w w'

theorem DiskOk.later {DI : World → Addr → (Nat → Prop) → DM → Prop} (H : DiskOk DI) {w w' : World} {a : Addr} {F : Nat → Prop} {s : DM} (h : DI w a F s) (hb : Below w.heap.size w w') : DI w' a F s :=
  H.kept h (fun k hk => hb.block k (H.lt h k hk)) hb.size

theorem cell_of_heap {w w' : World} {p : Addr} (h : w'.heap[p.block]? = w.heap[p.block]?) : w'.cell? p = w.cell? p := World.cell?_of_block (w := w) h

theorem Arg.kept {w w' : World} {ao : Option Addr} {len cap : Nat} {zs : List Int} (h : Arg w ao len cap zs) (hk : ∀ b o s, ao = some ⟨b, o, s⟩ → w'.heap[b]? = w.heap[b]?) : Arg w' ao len cap zs := by
  obtain ⟨⟨h1, h2, h3, h4⟩, h5, h6, h7⟩ := h
  refine ⟨⟨h1, h2, h3, ?_⟩, h5, h6, h7⟩
  rcases h4 with h4 | ⟨b, o, rfl, hc⟩
  · exact Or.inl h4
  · exact Or.inr ⟨b, o, rfl, fun j hj => by rw [cell_of_heap (hk b o none rfl)]; exact hc j hj⟩

theorem list_one {w : World} {T : TypeId} {G : Nat → Prop} {x : Int} {ad : Option Addr} {len cap : Nat} {zs : List Int} (hA : Arg w ad len cap zs) (hx : -9223372036854775808 ≤ x ∧ x ≤ 9223372036854775807) (hg : ∀ b' o s, ad = some ⟨b', o, s⟩ → G b') (hG : G w.heap.size) :
    ListIs (w.alloc (.cells #[.int .i64 x, .slice ad len cap] T)) G (some ⟨w.heap.size, 0, none⟩) 1 [(x, zs)] := by
  refine ⟨rfl, by decide, Or.inr ⟨w.heap.size, 0, rfl, hG, fun j a z hj => ?_⟩⟩
  match j, hj with
  | 0, hj =>
    simp at hj
    obtain ⟨rfl, rfl⟩ := hj
    exact ⟨by simp, hx, ad, len, cap, by simp, hA.later ((Below.refl _ _).alloc (Nat.le_refl _) _), fun b' o s e _ => hg b' o s e⟩
  | j + 1, hj => simp at hj

/-! ### Plain facts -/

theorem fresh_ok (n : Nat) : (freshD n).Ok := fun k => ⟨by simp [freshD], fun c hc => by
  have : c = zeros64 := by simpa [freshD] using hc
  subst this
  exact ⟨by decide, by decide⟩⟩

/-- A number of writes that are sound, on a disk whose power goes behind so many. -/
theorem putAll_left : ∀ (ws : List (Int × List Int)) (s : DM), s.off = false → 0 ≤ s.left →
    ((ws.length : Int) ≤ s.left → (putAll s ws).2 = 0 ∧ (putAll s ws).1.off = false ∧ (putAll s ws).1.left = s.left - ws.length ∧ (putAll s ws).1.n = s.n) ∧ (s.left < ws.length → (putAll s ws).2 = 8 ∧ (putAll s ws).1.off = true ∧ (putAll s ws).1.n = s.n)
  | [], s, h1, h2 => ⟨fun _ => ⟨rfl, h1, by simp [putAll], rfl⟩, fun h => by simp at h; omega⟩
  | (a, d) :: r, s, h1, h2 => by
    show _ ∧ _
    unfold putAll
    by_cases h0 : s.left = 0
    · rw [if_pos h0]
      refine ⟨fun h => ?_, fun _ => ⟨rfl, rfl, rfl⟩⟩
      simp only [List.length_cons] at h
      omega
    · rw [if_neg h0]
      have hs : (addW (step1 s) a.toNat d).left = s.left - 1 := by
        show (if 0 < s.left then s.left - 1 else s.left) = _
        rw [if_pos (by omega)]
      have ih := putAll_left r (addW (step1 s) a.toNat d) h1 (by rw [hs]; omega)
      rw [hs] at ih
      simp only [List.length_cons]
      refine ⟨fun h => ?_, fun h => ?_⟩
      · obtain ⟨i1, i2, i3, i4⟩ := ih.1 (by omega)
        exact ⟨i1, i2, by rw [i3]; omega, by rw [i4]; rfl⟩
      · obtain ⟨i1, i2, i3⟩ := ih.2 (by omega)
        exact ⟨i1, i2, by rw [i3]; rfl⟩

/-- No list of writes lays more contents into a block than it has writes. -/
theorem putAll_hist : ∀ (ws : List (Int × List Int)) (s : DM) (k : Nat), ((putAll s ws).1.hist k).length ≤ (s.hist k).length + ws.length
  | [], s, k => Nat.le_refl _
  | (a, d) :: r, s, k => by
    unfold putAll
    by_cases h0 : s.left = 0
    · rw [if_pos h0]
      show (s.hist k).length ≤ _
      omega
    · rw [if_neg h0]
      have ih := putAll_hist r (addW (step1 s) a.toNat d) k
      have e : ((addW (step1 s) a.toNat d).hist k).length ≤ (s.hist k).length + 1 := by
        show (if k = a.toNat then s.hist k ++ [d] else s.hist k).length ≤ _
        by_cases ek : k = a.toNat
        · rw [if_pos ek, List.length_append]; exact Nat.le_refl _
        · rw [if_neg ek]; omega
      rw [List.length_cons]
      omega

end Go.Proofs.Ytbnepjojfaeggaa

namespace Go.Proofs.Ytbnepjojfaeggaa
open Go.RowKit

theorem nn_lt {k : Int} {n : Nat} (h : ¬ (0 ≤ k ∧ k < n)) (h0 : 0 ≤ k) : ¬ k < n := fun h' => h ⟨h0, h'⟩

set_option maxHeartbeats 400000 in
theorem blocks_d {w : World} {d n cg : Nat} {ag : Option Addr} (h : w.cell? ⟨d, 3, none⟩ = some (.slice ag n cg)) :
    Calls Try.prog 54 #[.pointer (some ⟨d, 0, none⟩)] w fun e w' => e = .returned (.int .i64 n) ∧ w = w' := by
  go_enter Try.func54, Try.ntmps54
  go_wp2_with fail
  go_ret
  exact ⟨rfl, rfl⟩

set_option maxHeartbeats 400000 in
theorem blocks_nil (w : World) : Calls Try.prog 54 #[.pointer none] w fun e w' => e = .returned (.int .i64 0) ∧ w = w' := by
  go_enter Try.func54, Try.ntmps54
  go_wp2_with fail
  go_ret
  exact ⟨rfl, rfl⟩

set_option maxHeartbeats 400000 in
/-- 'has', for whatever its disk's Blocks answers. -/
theorem has_of {w : World} {p : Option Addr} {n : Nat} (c : Calls Try.prog 54 #[.pointer p] w fun e w' => e = .returned (.int .i64 n) ∧ w = w') (k : Int) :
    Calls Try.prog 43 #[.pointer p, .int .i64 k] w fun e w' => e = .returned (.bool (decide (0 ≤ k ∧ k < n))) ∧ w = w' := by
  by_cases h0 : 0 ≤ k
  · by_cases h1 : k < n
    · rw [decide_eq_true (⟨h0, h1⟩ : 0 ≤ k ∧ k < n)]
      go_enter Try.func43, Try.ntmps43
      go_wp2_with (go_at_call 54; refine c.mono ?_; rintro e w' ⟨rfl, rfl⟩)
      go_ret
      exact ⟨rfl, rfl⟩
    · rw [decide_eq_false (fun h => h1 h.2)]
      go_enter Try.func43, Try.ntmps43
      go_wp2_with (go_at_call 54; refine c.mono ?_; rintro e w' ⟨rfl, rfl⟩)
      go_ret
      exact ⟨by show Ending.returned (.bool (decide (k < (n : Int)))) = _; rw [decide_eq_false (by omega)], rfl⟩
  · rw [decide_eq_false (fun h => h0 h.1)]
    clear c
    go_enter Try.func43, Try.ntmps43
    go_wp2_with fail
    go_ret
    exact ⟨rfl, rfl⟩

set_option maxHeartbeats 400000 in
theorem ready_d {w : World} {d : Nat} {b : Bool} (h : w.cell? ⟨d, 0, none⟩ = some (.bool b)) :
    Calls Try.prog 40 #[.pointer (some ⟨d, 0, none⟩)] w fun e w' => e = .returned (.int .i64 (if b = true then 8 else 0)) ∧ w = w' := by
  cases b
  · go_enter Try.func40, Try.ntmps40
    go_wp2_with fail
    go_ret
    exact ⟨rfl, rfl⟩
  · go_enter Try.func40, Try.ntmps40
    go_wp2_with fail
    go_ret
    exact ⟨rfl, rfl⟩

set_option maxHeartbeats 400000 in
theorem ready_nil (w : World) : Calls Try.prog 40 #[.pointer none] w fun e w' => e = .returned (.int .i64 1) ∧ w = w' := by
  go_enter Try.func40, Try.ntmps40
  go_wp2_with fail
  go_ret
  exact ⟨rfl, rfl⟩

set_option maxHeartbeats 400000 in
theorem open_nil (n : Int) (w : World) : Calls Try.prog 24 #[.pointer none, .int .i64 n] w fun e w' => e = .returned (.int .i64 0) ∧ w = w' := by
  have c := has_of (blocks_nil w) n
  rw [show decide (0 ≤ n ∧ n < ((0 : Nat) : Int)) = false from decide_eq_false (by omega)] at c
  go_enter Try.func24, Try.ntmps24
  go_wp2_with (go_at_call 43; refine c.mono ?_; rintro e w' ⟨rfl, rfl⟩)
  go_ret
  exact ⟨rfl, rfl⟩

set_option maxHeartbeats 800000 in
theorem open_d {w : World} {d g n cg : Nat} (k : Int) (h : w.cell? ⟨d, 3, none⟩ = some (.slice (some ⟨g, 0, none⟩) n cg)) (hk : -9223372036854775808 ≤ k ∧ k ≤ 9223372036854775807)
    (L : Nat) (hin : 0 ≤ k → k < n → ∃ ao co, w.cell? ⟨g, 65 * k.toNat + 64, none⟩ = some (.slice ao L co)) (hout : ¬ (0 ≤ k ∧ k < n) → L = 0) :
    Calls Try.prog 24 #[.pointer (some ⟨d, 0, none⟩), .int .i64 k] w fun e w' => e = .returned (.int .i64 L) ∧ w = w' := by
  have c := has_of (blocks_d h) k
  by_cases hb : 0 ≤ k ∧ k < n
  · rw [decide_eq_true hb] at c
    obtain ⟨ao, co, hcell⟩ := hin hb.1 hb.2
    obtain ⟨h0, h1⟩ := hb
    obtain ⟨q, rfl⟩ : ∃ q : Nat, k = q := ⟨k.toNat, by omega⟩
    rw [show 65 * Int.toNat (q : Int) + 64 = q * 65 + 64 by omega] at hcell
    clear hout hin hk
    go_enter Try.func24, Try.ntmps24
    go_wp2_with (go_at_call 43; refine c.mono ?_; rintro e w' ⟨rfl, rfl⟩)
    go_ret
    exact ⟨rfl, rfl⟩
  · rw [decide_eq_false hb] at c
    rw [hout hb]
    clear hout hin hk hb
    go_enter Try.func24, Try.ntmps24
    go_wp2_with (go_at_call 43; refine c.mono ?_; rintro e w' ⟨rfl, rfl⟩)
    go_ret
    exact ⟨rfl, rfl⟩

set_option maxHeartbeats 400000 in
theorem fail_nil (n : Int) (w : World) : Calls Try.prog 12 #[.pointer none, .int .i64 n] w fun e w' => e = .returned (.tuple #[]) ∧ w = w' := by
  go_enter Try.func12, Try.ntmps12
  go_wp2_with fail
  refine bodyPost_ret (results_none rfl _ _ _) rfl ?_
  exact ⟨rfl, rfl⟩

set_option maxHeartbeats 400000 in
theorem fail_d {w : World} {d : Nat} {du : Bool} {l : Int} (k : Int) (h1 : w.cell? ⟨d, 1, none⟩ = some (.bool du)) (h2 : w.cell? ⟨d, 2, none⟩ = some (.int .i64 l)) (hf : ∀ j, w.frozen? ⟨d, j, none⟩ = false) :
    Calls Try.prog 12 #[.pointer (some ⟨d, 0, none⟩), .int .i64 k] w fun e w' => e = .returned (.tuple #[]) ∧ w' = (w.setCell ⟨d, 1, none⟩ (.bool (decide (0 ≤ k)))).setCell ⟨d, 2, none⟩ (.int .i64 k) := by
  have f1 := hf 1
  have f2 := hf 2
  clear hf
  have h2' : (w.setCell ⟨d, 1, none⟩ (.bool (decide (0 ≤ k)))).cell? ⟨d, 2, none⟩ = some (.int .i64 l) := by
    rw [World.cell?_setCell_other (h := by intro e; simp at e)]; exact h2
  go_enter Try.func12, Try.ntmps12
  go_wp2_with fail
  go_end0
  exact ⟨rfl, rfl⟩

set_option maxHeartbeats 400000 in
theorem holds_never {w : World} {d : Nat} (h1 : w.cell? ⟨d, 1, none⟩ = some (.bool false)) : Calls Try.prog 42 #[.pointer (some ⟨d, 0, none⟩)] w fun e w' => e = .returned (.bool true) ∧ w' = w := by
  go_enter Try.func42, Try.ntmps42
  go_wp2_with fail
  go_ret
  exact ⟨rfl, rfl⟩

set_option maxHeartbeats 400000 in
theorem holds_gone {w : World} {d : Nat} {b : Bool} (h0 : w.cell? ⟨d, 0, none⟩ = some (.bool b)) (h1 : w.cell? ⟨d, 1, none⟩ = some (.bool true)) (h2 : w.cell? ⟨d, 2, none⟩ = some (.int .i64 0)) (hf : w.frozen? ⟨d, 0, none⟩ = false) :
    Calls Try.prog 42 #[.pointer (some ⟨d, 0, none⟩)] w fun e w' => e = .returned (.bool false) ∧ w' = w.setCell ⟨d, 0, none⟩ (.bool true) := by
  go_enter Try.func42, Try.ntmps42
  go_wp2_with fail
  go_ret
  exact ⟨rfl, rfl⟩

set_option maxHeartbeats 400000 in
theorem holds_less {w : World} {d : Nat} {l : Int} (h1 : w.cell? ⟨d, 1, none⟩ = some (.bool true)) (h2 : w.cell? ⟨d, 2, none⟩ = some (.int .i64 l)) (h0 : 0 < l) (h9 : l ≤ 9223372036854775807) (hf : w.frozen? ⟨d, 2, none⟩ = false) :
    Calls Try.prog 42 #[.pointer (some ⟨d, 0, none⟩)] w fun e w' => e = .returned (.bool true) ∧ w' = w.setCell ⟨d, 2, none⟩ (.int .i64 (l - 1)) := by
  have hne : (l == 0) = false := by simp; omega
  go_enter Try.func42, Try.ntmps42
  go_wp2_with fail
  go_ret
  exact ⟨rfl, rfl⟩

end Go.Proofs.Ytbnepjojfaeggaa

namespace Go.Proofs.Ytbnepjojfaeggaa
open Go.RowKit
set_option linter.unusedVariables false
set_option linter.unusedSimpArgs false

def bys (l : List Int) : List Value := l.map (Value.int .u8)
def flat (L : List (List Int)) : List Value := bys L.flatten
theorem bys_length (l : List Int) : (bys l).length = l.length := by unfold bys; simp
theorem bys_one (l : List Int) : ∀ u ∈ bys l, u.oneCell' = true := one_cells l
theorem flat_length {L : List (List Int)} (h : ∀ c ∈ L, c.length = 64) : (flat L).length = L.length * 64 := by
  unfold flat
  rw [bys_length]
  induction L with
  | nil => rfl
  | cons c r ih =>
    rw [List.flatten_cons, List.length_append, ih (fun x hx => h x (List.mem_cons_of_mem _ hx)), h c (by simp), List.length_cons]
    omega

theorem bys_append (a b : List Int) : bys (a ++ b) = bys a ++ bys b := by unfold bys; simp

theorem flat_at : ∀ {L : List (List Int)} (_ : ∀ c ∈ L, c.length = 64) {i : Nat} {c : List Int} (_ : L[i]? = some c) (j : Nat) (v : Value), (bys c)[j]? = some v → (flat L)[i * 64 + j]? = some v
  | [], _, i, c, hi, _, _, _ => by simp at hi
  | x :: r, h, 0, c, hi, j, v, hv => by
    simp at hi
    subst hi
    unfold flat
    rw [List.flatten_cons, bys_append, List.getElem?_append_left (by have := (List.getElem?_eq_some_iff.1 hv).1; omega)]
    simpa using hv
  | x :: r, h, i + 1, c, hi, j, v, hv => by
    have ih := flat_at (fun c hc => h c (List.mem_cons_of_mem _ hc)) (show r[i]? = some c by simpa using hi) j v hv
    have hx : (bys x).length = 64 := by rw [bys_length]; exact h x (by simp)
    show (bys (x ++ r.flatten))[_]? = _
    rw [bys_append, List.getElem?_append_right (by omega), hx, show (i + 1) * 64 + j - 64 = i * 64 + j by omega]
    exact ih

theorem flat_take : ∀ (L : List (List Int)) (k : Nat), (∀ c ∈ L, c.length = 64) → (flat L).take (k * 64) = flat (L.take k)
  | L, 0, _ => by simp [flat, bys]
  | [], k + 1, _ => by simp [flat, bys]
  | x :: r, k + 1, h => by
    have hx : (bys x).length = 64 := by rw [bys_length]; exact h x (by simp)
    have ih := flat_take r k (fun c hc => h c (List.mem_cons_of_mem _ hc))
    show (bys (x ++ r.flatten)).take _ = bys (x ++ (r.take k).flatten)
    rw [bys_append, bys_append, show (k + 1) * 64 = (bys x).length + k * 64 by omega, List.take_length_add_append]
    exact congrArg _ ih

theorem flat_snoc (L : List (List Int)) (c : List Int) : flat (L ++ [c]) = flat L ++ bys c := by
  unfold flat
  rw [List.flatten_append, bys_append]
  simp

theorem u65 : Try.prog.underlying 81 = some (.array 64 5) := Try.underlying81
theorem i65 {c : List Int} (h : c.length = 64) : (Try.prog.info? 81).map (·.size) = some (bys c).length := by rw [bys_length, h]; kernel_rfl
theorem i65a {c : List Int} (h : c.length = 64) : (Try.prog.info? 81).map (·.size) = some (bys c).toArray.size := by rw [List.size_toArray]; exact i65 h

/-- The first so many elements of a row of the call's own. -/
theorem owns_takeN {w : World} {base n k sz : Nat} {e : TypeId} {ao : Option Addr} {cap : Nat} {xs : List Value} (h : w.ownsRow base e sz (.slice ao n cap) n xs) (hk : k ≤ n) : w.ownsRow base e sz (.slice ao k cap) k (xs.take (k * sz)) := by
  obtain ⟨hl, h⟩ := h
  refine ⟨by rw [List.length_take, hl]; exact Nat.min_eq_left (Nat.mul_le_mul hk (Nat.le_refl _)), ?_⟩
  rcases h with ⟨hv, h0⟩ | ⟨g, cap', cur, hv, hb, hg, hc, hm, hs, ht⟩
  · simp only [Value.slice.injEq] at hv
    obtain ⟨rfl, rfl, rfl⟩ := hv
    exact Or.inl ⟨by rw [show k = 0 by omega], by omega⟩
  · simp only [Value.slice.injEq, true_and] at hv
    obtain ⟨rfl, rfl⟩ := hv
    refine Or.inr ⟨g, cap, cur, rfl, hb, hg, by omega, hm, hs, ?_⟩
    rw [← ht, List.take_take, Nat.min_eq_left (Nat.mul_le_mul hk (Nat.le_refl _))]

/-- One block of a row of blocks. -/
theorem owns_range {w : World} {base n : Nat} {g cap : Nat} {L : List (List Int)} (h : w.ownsRow base 81 64 (.slice (some ⟨g, 0, none⟩) n cap) n (flat L)) (hL : ∀ c ∈ L, c.length = 64) {i : Nat} {c : List Int} (hi : L[i]? = some c) : w.rangeAt g (i * 64) (bys c) := by
  intro j v hv
  have h1 := h.cells rfl (i * 64 + j) v (flat_at hL hi j v hv)
  rw [Go.WideShapes.add_plain] at h1
  simpa using h1

def zero65 : Array Value := (bys zeros64).toArray

theorem getLastD_cons_ne {α : Type} (x d : α) : ∀ (l : List α), l ≠ [] → (x :: l).getLastD d = l.getLastD d
  | [], h => absurd rfl h
  | [_], _ => rfl
  | _ :: _ :: _, _ => rfl

set_option maxRecDepth 100000 in
theorem alloc65 (w : World) : (Instr.alloc 81 true (.tuple #[])).run Try.prog w = .ok (.pointer (some ⟨w.heap.size, 0, none⟩)) (w.alloc (.cells zero65 81)) := by
  rfl

section
variable {ops : Array Oper} {rest : List Oper} {o : Oper} {a : Act} {w : World} {Q : Exit → Act → World → Prop}

/-- A new variable of a block. -/
theorem wp_new65 (hg : o.guard = none) (ho : o.op = .alloc 81) (dst : Option Tmp) (hd : o.dst = dst)
    (h : ∀ n1 w1, n1 = w.heap.size → w1 = w.alloc (.cells zero65 81) → wpList Try.prog ops Q rest (a.put dst (.pointer (some ⟨n1, 0, none⟩))) w1) : wpList Try.prog ops Q (o :: rest) a w := by
  subst hd
  refine wpList_plain hg fun K hK => ?_
  unfold Oper.wp execOp
  simp only [ho, Sem.run_bind, alloc65, Sem.run_pure, Result.andThen_ok]
  exact hK _ _ (h _ _ rfl rfl)
end

theorem range_later {w wx : World} {b o : Nat} {cs : List Value} (hb : Below w.heap.size w wx) (h : w.rangeAt b o cs) : wx.rangeAt b o cs := fun j v hv => cell_later hb (h j v hv)

theorem results_cell1 {fn : Func} {p : Tmp} {ty : TypeId} (h : fn.results = #[.cell p ty]) (tmps : Array Value) (P : Program) (w : World) :
    (results fn tmps).run P w = ((asAddr (tmps.getD p undef)).run P w).andThen fun a w₁ => (loadVar ty a).run P w₁ := by
  simp only [results, h]
  simp [Sem.run_bind, Result.andThen]

theorem new_there (w : World) : (w.alloc (.cells zero65 81)).there w.heap.size 0 64 := by
  intro j hj
  refine ⟨?_, by rw [World.frozen?_alloc_mark]; simp⟩
  rw [Nat.zero_add, World.cell?_alloc_new]
  simp [zero65, bys, zeros64, hj]

theorem below_setCells {B : Nat} {w0 : World} (b : Nat) (hB : B ≤ b) : ∀ (vs : List Value) (o : Nat) (w : World), Below B w0 w → Below B w0 (w.setCells b o vs)
  | [], _, _, h => h
  | v :: r, o, w, h => by
    rw [World.setCells]
    exact below_setCells b hB r (o + 1) _ (h.setCell (p := ⟨b, o, none⟩) hB v)

/-- A block's contents go into a new variable. -/
theorem stored65 {w w1 : World} {n1 : Nat} {c : List Int} (hn : n1 = w.heap.size) (hw : w1 = w.alloc (.cells zero65 81)) (hc : c.length = 64) :
    w1.there n1 0 (bys c).toArray.size ∧ (w1.setCells n1 0 (bys c).toArray.toList).rangeAt n1 0 (bys c) ∧ Below w.heap.size w (w1.setCells n1 0 (bys c).toArray.toList) := by
  subst hn
  subst hw
  have ht := new_there w
  have h64 : (bys c).length = 64 := by rw [bys_length, hc]
  have e : (bys c).toArray.size = 64 := by simp [h64]
  rw [e]
  refine ⟨ht, ?_, ?_⟩
  · exact World.rangeAt_setCells_same _ _ _ _ (by rw [h64]; exact ht)
  · exact below_setCells _ (Nat.le_refl _) _ _ _ ((Below.refl _ _).alloc (Nat.le_refl _) _)

theorem stored65d {w w1 : World} {n1 : Nat} {c : List Int} (hn : n1 = w.heap.size) (hw : w1 = w.alloc (.cells zero65 81)) (hc : c.length = 64) :
    w1.drew.there n1 0 (bys c).toArray.size ∧ (w1.drew.setCells n1 0 (bys c).toArray.toList).rangeAt n1 0 (bys c) ∧ Below w.heap.size w (w1.drew.setCells n1 0 (bys c).toArray.toList) := by
  obtain ⟨h1, h2, h3⟩ := stored65 hn hw hc
  have h64 : (bys c).length = 64 := by rw [bys_length, hc]
  have e : (bys c).toArray.size = 64 := by simp [h64]
  rw [e] at h1
  rw [e]
  refine ⟨(World.there_drew _ _ _ _).2 h1, World.rangeAt_setCells_same _ _ _ _ (by rw [h64]; exact (World.there_drew _ _ _ _).2 h1), below_setCells _ (by rw [hn]; exact Nat.le_refl _) _ _ _ ?_⟩
  rw [hw]
  exact ((Below.refl _ _).alloc (Nat.le_refl _) _).drew

set_option maxRecDepth 100000 in
set_option maxHeartbeats 800000 in
theorem cellLast_none {w : World} {g off cap : Nat} {ao : Option Addr} {ls : List Int} (hl : ls.length = 64) (hr : w.rangeAt g off (bys ls)) (hv : w.cell? ⟨g, off + 64, none⟩ = some (.slice ao 0 cap)) :
    Calls Try.prog 53 #[.pointer (some ⟨g, off, none⟩)] w fun e w' => e = .returned (.agg (bys ls).toArray) ∧ Below w.heap.size w w' := by
  have HL := Lib.hid hl
  have HR := Lib.hid hr
  have HV := Lib.hid hv
  clear hl hr hv
  go_enter Try.func53, Try.ntmps53
  go_wp2_with (first
    | (refine wp_new65 rfl rfl (some 2) rfl ?_; intro n1 w1 hn1 hw1; have HB1 : Hid (Below w.heap.size w w1) := Lib.hid (by rw [hw1]; exact (Below.refl _ _).alloc (Nat.le_refl _) _); have hv1 := cell_later HB1.out HV.out; have HS := Lib.hid (stored65 hn1 hw1 HL.out); clear hn1 hw1)
    | (refine wpList_load_mid rfl 81 (.tmp 11) rfl g off rfl (bys ls) _ (range_later HB1.out HR.out) u65 rfl (i65 HL.out) ?_)
    | (refine wpList_store_mid rfl 81 (.tmp 2) (.tmp 12) rfl n1 0 (bys ls).toArray rfl rfl HS.out.1 (i65a HL.out) (all_oneCell_toArray (bys_one ls)) ?_; clear hv1))
  refine bodyPost_ret (v := .agg (bys ls).toArray) ?_ rfl ⟨rfl, HS.out.2.2⟩
  rw [results_cell1 rfl]
  simp only [asAddr, Sem.run_pure, Result.andThen_ok]
  exact run_loadVar_mid _ _ _ _ _ _ HS.out.2.1 u65 rfl (i65 HL.out)

theorem still_load65 {ops : Array Oper} {rest : List Oper} {o : Oper} {a : Act} {w : World} {Q : Act → Prop} (hg : o.guard = none) (x : Operand) (ho : o.op = .load 81 x) (dst : Option Tmp) (hd : o.dst = dst) (b off : Nat) (hx : a.eval x = .pointer (some ⟨b, off, none⟩))
    (c : List Int) (hr : w.rangeAt b off (bys c)) (hc : c.length = 64) (h : wpStill Try.prog ops w Q rest (a.put dst (.agg (bys c).toArray))) : wpStill Try.prog ops w Q (o :: rest) a := by
  subst hd
  refine wpStill_step (fun K hK => ?_)
  rw [if_pos (by simp [Region.wanted, hg])]
  unfold Oper.still execOp
  simp only [ho, hx, Instr.loadAt, Instr.sureAddr, Sem.run_bind, Sem.run_pure, Result.andThen_ok, run_loadVar_mid w b off _ (bys c) _ hr u65 rfl (i65 hc), Oper.stillUpon_value]
  exact hK _ h

theorem drew_eq (w : World) : { w with drawn := w.drawn + 1 } = w.drew := rfl

set_option maxRecDepth 100000 in
set_option maxHeartbeats 1600000 in
theorem cellLast_some {w : World} {g off r k cap : Nat} {c : List Int} (hc : c.length = 64) (hr : w.rangeAt r (k * 64) (bys c)) (hk : k ≤ 9223372036854775806) (hv : w.cell? ⟨g, off + 64, none⟩ = some (.slice (some ⟨r, 0, none⟩) (k + 1) cap)) :
    Calls Try.prog 53 #[.pointer (some ⟨g, off, none⟩)] w fun e w' => e = .returned (.agg (bys c).toArray) ∧ Below w.heap.size w w' := by
  have HL := Lib.hid hc
  have HR := Lib.hid hr
  have HV := Lib.hid hv
  clear hc hr hv
  have hwr : IntKind.i64.wrap (k : Int) = (k : Int) := by rw [IntKind.wrap_i64]; omega
  have i1 : (k : Int) < (k : Int) + 1 := by omega
  have hne : ((k : Int) + 1 == 0) = false := by simp; omega
  clear hk
  go_enter Try.func53, Try.ntmps53
  go_wp2_with (first
    | (refine wp_new65 rfl rfl (some 2) rfl ?_; intro n1 w1 hn1 hw1; have HB1 : Hid (Below w.heap.size w w1) := Lib.hid (by rw [hw1]; exact (Below.refl _ _).alloc (Nat.le_refl _) _); have hv1 := cell_later HB1.out HV.out; have HS := Lib.hid (stored65d hn1 hw1 HL.out); clear hn1 hw1))
  refine wp_region_still_tail 12 (by kernel_rfl) (by kernel_rfl) ?_
  simp only [List.take_succ_cons, List.take_zero, List.drop_succ_cons, List.drop_zero]
  try rw [drew_eq]
  iterate 11 still_step
  refine still_load65 rfl (.tmp 23) rfl (some 24) rfl r (k * 64) rfl c ((World.rangeAt_drew _ _ _ _).2 (range_later HB1.out HR.out)) HL.out ?_
  refine wpStill_nil ?_
  refine wpList_store_mid rfl 81 (.tmp 2) (.tmp 24) rfl n1 0 (bys c).toArray rfl rfl HS.out.1 (i65a HL.out) (all_oneCell_toArray (bys_one c)) ?_
  clear hv1
  go_wp2_with fail
  refine bodyPost_ret (v := .agg (bys c).toArray) ?_ rfl ⟨rfl, HS.out.2.2⟩
  rw [results_cell1 rfl]
  simp only [asAddr, Sem.run_pure, Result.andThen_ok]
  exact run_loadVar_mid _ _ _ _ _ _ HS.out.2.1 u65 rfl (i65 HL.out)

/-- What lies in a cell: the contents that last, and the row of the open ones. -/
structure CellIs (w : World) (g off : Nat) (ls : List Int) (ao : Option Addr) (cap : Nat) (os : List (List Int)) : Prop where
  last : w.rangeAt g off (bys ls)
  opn : w.cell? ⟨g, off + 64, none⟩ = some (.slice ao os.length cap)
  row : w.ownsRow 0 81 64 (.slice ao os.length cap) os.length (flat os)
  away : (Value.slice ao os.length cap).ownBlock ≠ some g
  len : ls.length = 64 ∧ ∀ c ∈ os, c.length = 64

theorem CellIs.few {w : World} {g off : Nat} {ls : List Int} {ao : Option Addr} {cap : Nat} {os : List (List Int)} (h : CellIs w g off ls ao cap os) : os.length ≤ 9223372036854775807 := by
  rcases h.row.2 with ⟨_, h0⟩ | ⟨g, cap, cur, _, _, _, hc, hm, _⟩
  · omega
  · unfold maxLen at hm; omega

theorem last_cell {w : World} {g off : Nat} {ls : List Int} {ao : Option Addr} {cap : Nat} {os : List (List Int)} (h : CellIs w g off ls ao cap os) :
    Calls Try.prog 53 #[.pointer (some ⟨g, off, none⟩)] w fun e w' => e = .returned (.agg (bys ((ls :: os).getLastD [])).toArray) ∧ Below w.heap.size w w' := by
  rcases Nat.eq_zero_or_pos os.length with h0 | h0
  · have : os = [] := List.length_eq_zero_iff.1 h0
    subst this
    exact cellLast_none h.len.1 h.last h.opn
  · obtain ⟨r, cap', hv, _, _⟩ := h.row.form h0
    simp only [Value.slice.injEq, true_and] at hv
    obtain ⟨rfl, rfl⟩ := hv
    obtain ⟨k, hk⟩ : ∃ k, os.length = k + 1 := ⟨os.length - 1, by omega⟩
    have hi : os[k]? = some (os.getLastD []) := by
      rw [List.getLastD_eq_getLast?, List.getLast?_eq_getElem?, show os.length - 1 = k by omega, List.getElem?_eq_getElem (show k < os.length by omega)]
      rfl
    have hr := owns_range h.row h.len.2 hi
    have hc := h.len.2 _ (List.mem_of_getElem? hi)
    have ho := h.opn
    have hf := h.few
    rw [hk] at ho hf
    rw [getLastD_cons_ne _ _ _ (by intro e; rw [e] at h0; exact Nat.lt_irrefl 0 h0)]
    exact cellLast_some hc hr (by omega) ho

end Go.Proofs.Ytbnepjojfaeggaa

namespace Go.Proofs.Ytbnepjojfaeggaa
open Go.RowKit
set_option linter.unusedVariables false
set_option linter.unusedSimpArgs false

theorem Grew.refl (F : Nat → Prop) (w : World) : Grew F F w w := ⟨rfl, rfl, rfl, Nat.le_refl _, fun _ _ _ => rfl, fun _ h => Or.inl h⟩
theorem Grew.trans {F F' F'' : Nat → Prop} {a b c : World} (h : Grew F F' a b) (k : Grew F' F'' b c) : Grew F F'' a c := by
  obtain ⟨h1, h2, h3, h4, h5, h6⟩ := h
  obtain ⟨k1, k2, k3, k4, k5, k6⟩ := k
  refine ⟨k1.trans h1, k2.trans h2, k3.trans h3, Nat.le_trans h4 k4, fun i hi hF => ?_, fun i hi => ?_⟩
  · rw [k5 i (by omega) (fun hf => ?_), h5 i hi hF]
    rcases h6 i hf with h | h
    · exact hF h
    · omega
  · rcases k6 i hi with h | h
    · exact h6 i h
    · exact Or.inr (by omega)
theorem Grew.of_below {F : Nat → Prop} {w w' : World} (h : Below w.heap.size w w') : Grew F F w w' := ⟨h.os, h.tape, h.output, h.size, fun k hk _ => h.block k hk, fun _ h => Or.inl h⟩
theorem Grew.setCell (F : Nat → Prop) (w : World) {p : Addr} (hp : F p.block) (v : Value) : Grew F F w (w.setCell p v) :=
  ⟨rfl, rfl, rfl, by simp [World.setCell], fun k _ hF => Below.heap_setCell _ _ _ _ (fun e => hF (by rw [e]; exact hp)), fun _ h => Or.inl h⟩
theorem Grew.setCells (F : Nat → Prop) {b : Nat} (hb : F b) : ∀ (vs : List Value) (o : Nat) (w : World), Grew F F w (w.setCells b o vs)
  | [], _, w => Grew.refl F w
  | v :: r, o, w => by
    rw [World.setCells]
    exact (Grew.setCell F w (p := ⟨b, o, none⟩) hb v).trans (Grew.setCells F hb r (o + 1) _)
theorem Grew.drew (F : Nat → Prop) (w : World) : Grew F F w w.drew := ⟨rfl, rfl, rfl, Nat.le_refl _, fun _ _ _ => rfl, fun _ h => Or.inl h⟩

theorem getLastD_take {ls : List Int} {os : List (List Int)} {m : Nat} (h : m ≤ os.length) : (ls :: os.take m).getLastD [] = (ls :: os).getD m [] := by
  rw [List.getLastD_eq_getLast?, List.getLast?_eq_getElem?, List.getD_eq_getElem?_getD]
  have e : (ls :: os.take m).length - 1 = m := by rw [List.length_cons, List.length_take]; omega
  rw [e, show ls :: os.take m = (ls :: os).take (m + 1) from rfl, List.getElem?_take, if_pos (by omega)]

/-- Which open write is the last one that is kept. -/
def keptN (n : Int) (L : Nat) : Nat := min n.toNat L

theorem still_val {ops : Array Oper} {rest : List Oper} {o : Oper} {a : Act} {w : World} {Q : Act → Prop} (hg : o.guard = none) (dst : Option Tmp) (hd : o.dst = dst) (v : Value) (hrun : (execOp a.eval o).run Try.prog w = .ok (.value v) w)
    (h : wpStill Try.prog ops w Q rest (a.put dst v)) : wpStill Try.prog ops w Q (o :: rest) a := by
  subst hd
  refine wpStill_step (fun K hK => ?_)
  rw [if_pos (by simp [Region.wanted, hg])]
  unfold Oper.still
  rw [hrun, Oper.stillUpon_value]
  exact hK _ h

theorem exec_val {w w' : World} {s : Sem Value} {v : Value} (h : s.run Try.prog w = .ok v w') : Sem.run Try.prog (do pure (Next.value (← s))) w = .ok (.value v) w' := by
  simp only [Sem.run_bind, h, Result.andThen_ok, Sem.run_pure]

theorem u66 : Try.prog.underlying 82 = some (.slice 81) := Try.underlying82
set_option maxRecDepth 100000 in
theorem sz65 (w : World) : (sizeOf 81).run Try.prog w = .ok 64 w := by rfl

theorem slice_to (w : World) (ao : Option Addr) (L cap m : Nat) (hm : m ≤ cap) (hao : ao = none ∨ ∃ r, ao = some ⟨r, 0, none⟩) :
    (Instr.sliceAt 82 (.slice ao L cap) none (some (.int .i64 (m : Int))) none).run Try.prog w = .ok (.slice ao m cap) w := by
  have hu := u66
  have hz := sz65 w
  have h1 : (m : Int) ≤ (cap : Int) := by omega
  rcases hao with rfl | ⟨r, rfl⟩
  · simp [Instr.sliceAt, Instr.slice, run_underlying hu, Instr.sliceBounds, Instr.sliceBound, asIntOf, hz, hm]
  · simp [Instr.sliceAt, Instr.slice, run_underlying hu, Instr.sliceBounds, Instr.sliceBound, asIntOf, hz, hm, Go.WideShapes.add_plain]

theorem owns_turn {w w' : World} {base n sz : Nat} {e : TypeId} {v : Value} {xs : List Value} (h : w.ownsRow base e sz v n xs) (hk : ∀ k, v.ownBlock = some k → w'.heap[k]? = w.heap[k]?) : w'.ownsRow base e sz v n xs := by
  refine ⟨h.1, ?_⟩
  rcases h.2 with h1 | ⟨b, cap, cur, hv1, hg, hh, r⟩
  · exact Or.inl h1
  · refine Or.inr ⟨b, cap, cur, hv1, hg, ?_, r⟩
    rw [hk b (by rw [hv1]; rfl)]
    exact hh

/-- A cell that keeps the first m of its open writes. -/
theorem CellIs.cut {w : World} {g off : Nat} {ls : List Int} {ao : Option Addr} {cap : Nat} {os : List (List Int)} (h : CellIs w g off ls ao cap os) {m : Nat} (hm : m ≤ os.length) :
    CellIs ((w.setCell ⟨g, off + 64, none⟩ (.slice ao m cap)).drew) g off ls ao cap (os.take m) := by
  have hl : (os.take m).length = m := by rw [List.length_take]; omega
  refine ⟨(World.rangeAt_drew _ _ _ _).2 (fun j v hv => ?_), ?_, ?_, ?_, h.len.1, fun c hc => h.len.2 c (List.mem_of_mem_take hc)⟩
  · have hj : j < 64 := by have := (List.getElem?_eq_some_iff.1 hv).1; rw [bys_length, h.len.1] at this; exact this
    rw [World.cell?_setCell_other (h := by intro e; simp at e <;> omega)]
    exact h.last j v hv
  · rw [hl]
    show (w.setCell ⟨g, off + 64, none⟩ (.slice ao m cap)).cell? ⟨g, off + 64, none⟩ = _
    exact World.cell?_setCell_same w _ _ h.opn
  · rw [hl, ← flat_take os m h.len.2]
    refine owns_turn (owns_takeN h.row hm) (fun k hk => ?_)
    show (w.setCell ⟨g, off + 64, none⟩ (.slice ao m cap)).heap[k]? = _
    refine Below.heap_setCell _ _ _ _ (fun e => h.away ?_)
    have hk : (Value.slice ao m cap).ownBlock = some k := hk
    rw [e] at hk
    cases ao <;> simp_all [Value.ownBlock]
  · rw [hl]
    intro e
    refine h.away ?_
    cases ao <;> simp_all [Value.ownBlock]

theorem CellIs.form {w : World} {g off : Nat} {ls : List Int} {ao : Option Addr} {cap : Nat} {os : List (List Int)} (h : CellIs w g off ls ao cap os) : (ao = none ∨ ∃ r, ao = some ⟨r, 0, none⟩) ∧ os.length ≤ cap := by
  rcases h.row.2 with ⟨hv, h0⟩ | ⟨r, cap', cur, hv, _, _, hc, _⟩
  · simp only [Value.slice.injEq] at hv
    exact ⟨Or.inl hv.1, by omega⟩
  · simp only [Value.slice.injEq, true_and] at hv
    obtain ⟨rfl, rfl⟩ := hv
    exact ⟨Or.inr ⟨r, rfl⟩, hc⟩

theorem CellIs.lt {w : World} {g off : Nat} {ls : List Int} {ao : Option Addr} {cap : Nat} {os : List (List Int)} (h : CellIs w g off ls ao cap os) : g < w.heap.size := World.block_lt_of_cell? _ _ h.opn

/-- A cell has settled: its contents are c, nothing is open; nothing else has turned. -/
structure Settled (w w' : World) (g off : Nat) (c : List Int) : Prop where
  grew : Grew (fun k => k = g) (fun k => k = g) w w'
  rest : ∀ j, (j < off ∨ off + 65 ≤ j) → w'.cell? ⟨g, j, none⟩ = w.cell? ⟨g, j, none⟩
  frz : ∀ j, w'.frozen? ⟨g, j, none⟩ = w.frozen? ⟨g, j, none⟩
  last : w'.rangeAt g off (bys c)
  opn : w'.cell? ⟨g, off + 64, none⟩ = some (.slice none 0 0)

theorem there_cell {w : World} {g off : Nat} {ls : List Int} {ao : Option Addr} {cap : Nat} {os : List (List Int)} (h : CellIs w g off ls ao cap os) (hfr : ∀ j, w.frozen? ⟨g, j, none⟩ = false) : w.there g off 64 := by
  intro j hj
  exact ⟨h.last.isSome j (by rw [bys_length, h.len.1]; exact hj), hfr _⟩

theorem settled_of {w w2 : World} {g off : Nat} {ls : List Int} {ao : Option Addr} {cap : Nat} {os : List (List Int)} {v : Value} {c : List Int} (h : CellIs w g off ls ao cap os) (hfr : ∀ j, w.frozen? ⟨g, j, none⟩ = false)
    (hb : Below w.heap.size ((w.setCell ⟨g, off + 64, none⟩ v).drew) w2) (hc : c.length = 64) : w2.there g off (bys c).toArray.size ∧ (∀ j, (w2.setCells g off (bys c)).frozen? ⟨g, j, none⟩ = false) ∧ (w2.setCells g off (bys c)).cell? ⟨g, off + 64, none⟩ = some v ∧
      Settled w ((w2.setCells g off (bys c)).setCell ⟨g, off + 64, none⟩ (.slice none 0 0)) g off c := by
  have hlt := h.lt
  have hc2 : ∀ j, w2.cell? ⟨g, j, none⟩ = (w.setCell ⟨g, off + 64, none⟩ v).cell? ⟨g, j, none⟩ := fun j => hb.cell (p := ⟨g, j, none⟩) hlt
  have hf2 : ∀ j, w2.frozen? ⟨g, j, none⟩ = w.frozen? ⟨g, j, none⟩ := fun j => by
    rw [hb.frozen (p := ⟨g, j, none⟩) hlt]
    show (w.setCell ⟨g, off + 64, none⟩ v).frozen? ⟨g, j, none⟩ = _
    simp
  have h64 : (bys c).length = 64 := by rw [bys_length, hc]
  have ht : w2.there g off 64 := fun j hj => ⟨by
    rw [hc2, World.cell?_setCell_other (h := by intro e; simp at e <;> omega)]
    exact (there_cell h hfr j hj).1, by rw [hf2]; exact hfr _⟩
  have ho : (w2.setCells g off (bys c)).cell? ⟨g, off + 64, none⟩ = some v := by
    rw [World.cell?_setCells_out g (bys c) off w2 ⟨g, off + 64, none⟩ (fun _ _ => by right; rw [h64]; exact Nat.le_refl _), hc2]
    exact World.cell?_setCell_same w _ _ h.opn
  have e64 : (bys c).toArray.size = 64 := by simp [h64]
  refine ⟨by rw [e64]; exact ht, fun j => by rw [World.frozen?_setCells, hf2]; exact hfr j, ho, ⟨?_, fun j hj => ?_, fun j => ?_, ?_, ?_⟩⟩
  · have g1 : Grew (fun k => k = g) (fun k => k = g) w (w.setCell ⟨g, off + 64, none⟩ v) := Grew.setCell (fun k => k = g) w (p := ⟨g, off + 64, none⟩) rfl v
    have g2 : Grew (fun k => k = g) (fun k => k = g) ((w.setCell ⟨g, off + 64, none⟩ v).drew) w2 := Grew.of_below (hb.mono (by show (w.setCell _ _).heap.size ≤ _; simp [World.setCell]))
    exact (((g1.trans (Grew.drew _ _)).trans g2).trans (Grew.setCells (fun k => k = g) (b := g) rfl _ _ _)).trans (Grew.setCell (fun k => k = g) _ (p := ⟨g, off + 64, none⟩) rfl _)
  · rw [World.cell?_setCell_other (h := by intro e; simp at e <;> omega), World.cell?_setCells_out g (bys c) off w2 ⟨g, j, none⟩ (fun _ _ => by show j < off ∨ _ ≤ j; rw [h64]; omega), hc2, World.cell?_setCell_other (h := by intro e; simp at e <;> omega)]
  · simp only [World.frozen?_setCell, World.frozen?_setCells]
    exact hf2 j
  · intro j v' hv
    have hj : j < 64 := by have := (List.getElem?_eq_some_iff.1 hv).1; rw [h64] at this; exact this
    rw [World.cell?_setCell_other (h := by intro e; simp at e <;> omega)]
    exact World.rangeAt_setCells_same w2 g off (bys c) (by rw [h64]; exact ht) j v' hv
  · exact World.cell?_setCell_same _ _ _ ho

theorem kept_eq (n : Int) (L : Nat) : (if (0 : Int) < (if (L : Int) < n then (L : Int) else n) then (if (L : Int) < n then (L : Int) else n) else 0) = ((keptN n L : Nat) : Int) := by
  unfold keptN
  split <;> split at * <;> omega

set_option maxRecDepth 100000 in
set_option maxHeartbeats 1600000 in
theorem settle_any {w : World} {g off : Nat} {ls : List Int} {ao : Option Addr} {cap : Nat} {os : List (List Int)} (h : CellIs w g off ls ao cap os) (hfr : ∀ j, w.frozen? ⟨g, j, none⟩ = false) (n : Int) :
    Calls Try.prog 32 #[.pointer (some ⟨g, off, none⟩), .int .i64 n] w fun e w' => e = .returned (.tuple #[]) ∧ Settled w w' g off ((ls :: os).getD (keptN n os.length) []) := by
  obtain ⟨L, hL⟩ : ∃ L, os.length = L := ⟨_, rfl⟩
  obtain ⟨m, hm⟩ : ∃ m, keptN n L = m := ⟨_, rfl⟩
  have hmL : m ≤ L := by rw [← hm]; exact Nat.min_le_right _ _
  obtain ⟨c, hc⟩ : ∃ c, (ls :: os).getD m [] = c := ⟨_, rfl⟩
  have hc64 : c.length = 64 := by
    have hlt : m < (ls :: os).length := by rw [List.length_cons]; omega
    have hx : (ls :: os)[m]? = some c := by rw [← hc, List.getD_eq_getElem?_getD, List.getElem?_eq_getElem hlt]; rfl
    rcases List.mem_cons.1 (List.mem_of_getElem? hx) with e | e
    · rw [e]; exact h.len.1
    · exact h.len.2 _ e
  have ho := h.opn
  rw [hL] at ho
  have HM := Lib.hid (kept_eq n L)
  rw [hm] at HM
  have HSL := Lib.hid (slice_to w.drew ao L cap m (by have := h.form.2; omega) h.form.1)
  have hfr64 := hfr (off + 64)
  have HC1 := Lib.hid (h.cut (m := m) (by omega))
  have HE : Hid ((ls :: os.take m).getLastD [] = c) := Lib.hid (by rw [getLastD_take (by omega)]; exact hc)
  rw [hL, hm, hc]
  have H := Lib.hid h
  have HFR := Lib.hid hfr
  have HC := Lib.hid hc64
  clear h hfr hL hm hc hmL hc64
  go_enter Try.func32, Try.ntmps32
  go_wp2_with fail
  refine wp_region_still_tail 16 (by kernel_rfl) (by kernel_rfl) ?_
  simp only [List.take_succ_cons, List.take_zero, List.drop_succ_cons, List.drop_zero]
  try rw [drew_eq]
  iterate 13 still_step
  rw [HM.out]
  generalize (if (L : Int) < n then (L : Int) else n) = q
  refine still_val rfl (some 17) rfl (.slice ao m cap) (exec_val HSL.out) ?_
  iterate 2 still_step
  refine wpStill_nil ?_
  go_wp2_with (first
    | (go_at_call 53; refine (last_cell HC1.out).mono ?_; rintro e w2 ⟨rfl, hb2⟩; rw [HE.out]; have HS := Lib.hid (settled_of (v := .slice ao m cap) H.out HFR.out (hb2.mono (by simp [World.setCell])) HC.out); have ho2 := HS.out.2.2.1; have hf2 := HS.out.2.1 (off + 64); clear hb2)
    | (refine wpList_store_mid rfl 81 (.tmp 24) (.tmp 22) rfl g off (bys c).toArray rfl rfl HS.out.1 (i65a HC.out) (all_oneCell_toArray (bys_one c)) ?_))
  go_end0
  exact ⟨rfl, HS.out.2.2.2⟩

end Go.Proofs.Ytbnepjojfaeggaa

namespace Go.Proofs.Ytbnepjojfaeggaa
open Go.RowKit
set_option linter.unusedVariables false
set_option linter.unusedSimpArgs false

/-- A disk: its own variable in block d, its cells in block g, the open writes of cell k at ao k. -/
structure DIs (w : World) (d g : Nat) (ao : Nat → Option Addr) (cp : Nat → Nat) (s : DM) : Prop where
  dg : d ≠ g
  n1 : 1 ≤ s.n
  n480 : s.n ≤ 480
  ok : s.Ok
  off : w.cell? ⟨d, 0, none⟩ = some (.bool s.off)
  pow : ∃ du l, w.cell? ⟨d, 1, none⟩ = some (.bool du) ∧ w.cell? ⟨d, 2, none⟩ = some (.int .i64 l) ∧ (-9223372036854775808 ≤ l ∧ l ≤ 9223372036854775807) ∧ ((du = false ∧ s.left = -1) ∨ (du = true ∧ s.left = l ∧ 0 ≤ l))
  sl : w.cell? ⟨d, 3, none⟩ = some (.slice (some ⟨g, 0, none⟩) s.n s.n)
  frd : ∀ j, w.frozen? ⟨d, j, none⟩ = false
  frg : ∀ j, w.frozen? ⟨g, j, none⟩ = false
  cells : ∀ k, k < s.n → CellIs w g (k * 65) ((s.hist k).headD []) (ao k) (cp k) (s.hist k).tail
  awayd : ∀ k, k < s.n → ao k ≠ some ⟨d, 0, none⟩
  apart : ∀ i j, i < s.n → j < s.n → i ≠ j → ao i = none ∨ ao i ≠ ao j

/-- The disk's own blocks. -/
def Foot (d g : Nat) (ao : Nat → Option Addr) (n k : Nat) : Prop := k = d ∨ k = g ∨ ∃ i, i < n ∧ ao i = some ⟨k, 0, none⟩

def DI (w : World) (a : Addr) (F : Nat → Prop) (s : DM) : Prop := ∃ d g ao cp, a = ⟨d, 0, none⟩ ∧ DIs w d g ao cp s ∧ F = Foot d g ao s.n

theorem CellIs.turn {w w' : World} {g off : Nat} {ls : List Int} {ao : Option Addr} {cap : Nat} {os : List (List Int)} (h : CellIs w g off ls ao cap os) (hg : w'.heap[g]? = w.heap[g]?) (hr : ∀ k, ao = some ⟨k, 0, none⟩ → w'.heap[k]? = w.heap[k]?) : CellIs w' g off ls ao cap os := by
  refine ⟨fun j v hv => by rw [cell_of_heap (p := ⟨g, off + j, none⟩) hg]; exact h.last j v hv, by rw [cell_of_heap (p := ⟨g, off + 64, none⟩) hg]; exact h.opn, owns_turn h.row (fun k hk => ?_), h.away, h.len⟩
  rcases h.form.1 with e | ⟨r, e⟩
  · rw [e] at hk; simp [Value.ownBlock] at hk
  · rw [e] at hk
    simp [Value.ownBlock] at hk
    exact hr k (by rw [e, hk])

theorem CellIs.row_lt {w : World} {g off k : Nat} {ls : List Int} {cap : Nat} {os : List (List Int)} (h : CellIs w g off ls (some ⟨k, 0, none⟩) cap os) : k < w.heap.size := (h.row.lt k rfl).2

theorem DIs.lt {w : World} {d g : Nat} {ao : Nat → Option Addr} {cp : Nat → Nat} {s : DM} (h : DIs w d g ao cp s) {k : Nat} (hk : Foot d g ao s.n k) : k < w.heap.size := by
  rcases hk with rfl | rfl | ⟨i, hi, e⟩
  · exact World.block_lt_of_cell? _ _ h.off
  · exact (h.cells 0 h.n1).lt
  · have hc := h.cells i hi
    rw [e] at hc
    exact hc.row_lt

theorem DIs.turn {w w' : World} {d g : Nat} {ao : Nat → Option Addr} {cp : Nat → Nat} {s : DM} (h : DIs w d g ao cp s) (hk : ∀ k, Foot d g ao s.n k → w'.heap[k]? = w.heap[k]?) : DIs w' d g ao cp s := by
  have hd := hk d (Or.inl rfl)
  have hg := hk g (Or.inr (Or.inl rfl))
  have hc : ∀ j, w'.cell? ⟨d, j, none⟩ = w.cell? ⟨d, j, none⟩ := fun j => cell_of_heap (p := ⟨d, j, none⟩) hd
  refine ⟨h.dg, h.n1, h.n480, h.ok, by rw [hc]; exact h.off, by rw [hc, hc]; exact h.pow, by rw [hc]; exact h.sl, fun j => ?_, fun j => ?_, fun k hk' => (h.cells k hk').turn hg (fun b hb => hk b (Or.inr (Or.inr ⟨k, hk', hb⟩))), h.awayd, h.apart⟩
  · rw [World.frozen?_of_block (w := w) (a := ⟨d, j, none⟩) hd]; exact h.frd j
  · rw [World.frozen?_of_block (w := w) (a := ⟨g, j, none⟩) hg]; exact h.frg j

theorem di_lt {w : World} {a : Addr} {F : Nat → Prop} {s : DM} (h : DI w a F s) : ∀ k, F k → k < w.heap.size := by
  obtain ⟨d, g, ao, cp, rfl, h, rfl⟩ := h
  exact fun k hk => h.lt hk

theorem di_kept {w w' : World} {a : Addr} {F : Nat → Prop} {s : DM} (h : DI w a F s) (hk : ∀ k, F k → w'.heap[k]? = w.heap[k]?) : DI w' a F s := by
  obtain ⟨d, g, ao, cp, rfl, h, rfl⟩ := h
  exact ⟨d, g, ao, cp, rfl, h.turn hk, rfl⟩

theorem hist_eq {s : DM} (h : s.Ok) (k : Nat) : s.hist k = (s.hist k).headD [] :: (s.hist k).tail := by
  have := (h k).1
  cases hh : s.hist k with
  | nil => exact absurd hh this
  | cons x r => rfl

theorem tail_len {s : DM} (k : Nat) : (s.hist k).tail.length = (s.hist k).length - 1 := List.length_tail

theorem di_blocks {w : World} {a : Addr} {F : Nat → Prop} {s : DM} (h : DI w a F s) : Calls Try.prog 54 #[.pointer (some a)] w fun e w' => e = .returned (.int .i64 s.n) ∧ Below w.heap.size w w' := by
  obtain ⟨d, g, ao, cp, rfl, h, rfl⟩ := h
  refine (blocks_d h.sl).mono ?_
  rintro e w' ⟨rfl, rfl⟩
  exact ⟨rfl, Below.refl _ _⟩

theorem di_open {w : World} {a : Addr} {F : Nat → Prop} {s : DM} (n : Int) (h : DI w a F s) (hn : -9223372036854775808 ≤ n ∧ n ≤ 9223372036854775807) : Calls Try.prog 24 #[.pointer (some a), .int .i64 n] w fun e w' => e = .returned (.int .i64 (openOf s n)) ∧ Below w.heap.size w w' := by
  obtain ⟨d, g, ao, cp, rfl, h, rfl⟩ := h
  refine (open_d n h.sl hn (openOf s n) (fun h0 h1 => ?_) (fun hb => by unfold openOf; rw [if_neg hb])).mono ?_
  · have hc := (h.cells n.toNat (by omega)).opn
    rw [tail_len] at hc
    refine ⟨ao n.toNat, cp n.toNat, ?_⟩
    unfold openOf
    rw [if_pos ⟨h0, h1⟩, Nat.mul_comm]
    exact hc
  · rintro e w' ⟨rfl, rfl⟩
    exact ⟨rfl, Below.refl _ _⟩

/-- A store into the disk's own variable. -/
theorem DIs.power {w : World} {d g : Nat} {ao : Nat → Option Addr} {cp : Nat → Nat} {s : DM} (h : DIs w d g ao cp s) {w' : World} (hk : ∀ k, k ≠ d → w'.heap[k]? = w.heap[k]?) (s' : DM) (hn : s'.n = s.n) (hh : s'.hist = s.hist)
    (hoff : w'.cell? ⟨d, 0, none⟩ = some (.bool s'.off)) (hpow : ∃ du l, w'.cell? ⟨d, 1, none⟩ = some (.bool du) ∧ w'.cell? ⟨d, 2, none⟩ = some (.int .i64 l) ∧ (-9223372036854775808 ≤ l ∧ l ≤ 9223372036854775807) ∧ ((du = false ∧ s'.left = -1) ∨ (du = true ∧ s'.left = l ∧ 0 ≤ l)))
    (hsl : w'.cell? ⟨d, 3, none⟩ = w.cell? ⟨d, 3, none⟩) (hfr : ∀ j, w'.frozen? ⟨d, j, none⟩ = false) : DIs w' d g ao cp s' := by
  have hg := hk g (Ne.symm h.dg)
  refine ⟨h.dg, by rw [hn]; exact h.n1, by rw [hn]; exact h.n480, fun k => by rw [hh]; exact h.ok k, hoff, hpow, by rw [hsl, hn]; exact h.sl, hfr, fun j => ?_, fun k hk' => ?_, fun k hk' => h.awayd k (by rw [← hn]; exact hk'), fun i j hi hj => h.apart i j (by rw [← hn]; exact hi) (by rw [← hn]; exact hj)⟩
  · rw [World.frozen?_of_block (w := w) (a := ⟨g, j, none⟩) hg]; exact h.frg j
  · rw [hh]
    rw [hn] at hk'
    exact (h.cells k hk').turn hg (fun b hb => hk b (fun e => h.awayd k hk' (by rw [hb, e])))

theorem di_fail {w : World} {a : Addr} {F : Nat → Prop} {s : DM} (n : Int) (h : DI w a F s) (hn : -9223372036854775808 ≤ n ∧ n ≤ 9223372036854775807) : Calls Try.prog 12 #[.pointer (some a), .int .i64 n] w fun e w' => ∃ F', e = .returned (.tuple #[]) ∧ DI w' a F' (failed s n) ∧ Grew F F' w w' := by
  obtain ⟨d, g, ao, cp, rfl, h, rfl⟩ := h
  obtain ⟨du, l, h1, h2, _, _⟩ := h.pow
  refine (fail_d n h1 h2 h.frd).mono ?_
  rintro e w' ⟨rfl, rfl⟩
  have hne : ∀ i j : Nat, i ≠ j → (⟨d, i, none⟩ : Addr) ≠ ⟨d, j, none⟩ := fun i j hij e => by cases e; exact hij rfl
  refine ⟨_, rfl, ⟨d, g, ao, cp, rfl, h.power (fun k hk => ?_) (failed s n) rfl rfl ?_ ⟨decide (0 ≤ n), n, ?_, ?_, hn, ?_⟩ ?_ (fun j => ?_), rfl⟩, ?_⟩
  · rw [Below.heap_setCell _ _ _ _ hk, Below.heap_setCell _ _ _ _ hk]
  · rw [World.cell?_setCell_other (h := hne 2 0 (by decide)), World.cell?_setCell_other (h := hne 1 0 (by decide))]
    exact h.off
  · rw [World.cell?_setCell_other (h := hne 2 1 (by decide))]
    exact World.cell?_setCell_same _ _ _ h1
  · exact World.cell?_setCell_same _ _ _ (by rw [World.cell?_setCell_other (h := hne 1 2 (by decide))]; exact h2)
  · show _ ∧ (if n < 0 then -1 else n) = -1 ∨ _ ∧ (if n < 0 then -1 else n) = n ∧ _
    by_cases hn0 : n < 0
    · rw [if_pos hn0]; exact Or.inl ⟨decide_eq_false (by omega), rfl⟩
    · rw [if_neg hn0]; exact Or.inr ⟨decide_eq_true (by omega), rfl, by omega⟩
  · rw [World.cell?_setCell_other (h := hne 2 3 (by decide)), World.cell?_setCell_other (h := hne 1 3 (by decide))]
  · simp only [World.frozen?_setCell]
    exact h.frd j
  · exact (Grew.setCell (Foot d g ao s.n) w (p := ⟨d, 1, none⟩) (Or.inl rfl) _).trans (Grew.setCell (Foot d g ao s.n) _ (p := ⟨d, 2, none⟩) (Or.inl rfl) _)

end Go.Proofs.Ytbnepjojfaeggaa

namespace Go.Proofs.Ytbnepjojfaeggaa
open Go.RowKit
set_option linter.unusedVariables false
set_option linter.unusedSimpArgs false

def zero68 : Array Value := (bys zeros64 ++ [Value.slice none 0 0]).toArray
theorem zeros_at {j : Nat} (h : j < 64) : (bys zeros64)[j]? = some (.int .u8 0) := by
  unfold bys zeros64
  rw [List.map_replicate, List.getElem?_replicate, if_pos h]
theorem info68 : (Try.prog.info? 84).map (fun i => (i.zero, i.size, i.bytes)) = some (some (.agg zero68), 65, 88) := by kernel_rfl

theorem run_make_cells (w : World) (n : Nat) (hn : n ≤ 480) : (Instr.makeSlice 76 (.int .i64 (n : Int)) (.int .i64 (n : Int))).run Try.prog w =
    .ok (.slice (some ⟨w.heap.size, 0, none⟩) n n) (w.alloc (.cells (madeCells zero68 (n * 65)) 84)) := by
  obtain ⟨i0, hi, hz0, hz1, hz2⟩ := info_parts info68
  have h := run_make (P := Try.prog) w 76 84 i0 (.agg zero68) Try.underlying76 hi hz0 .i64 .i64 (n : Int) (n : Int) (by omega) (Int.le_refl _) (by rw [hz2]; omega) (by omega)
  rw [hz1] at h
  simpa [Value.cells] using h

theorem made_at7 (n k j : Nat) (hk : k < n) (hj : j < 65) : (madeCells zero68 (n * 65))[k * 65 + j]? = zero68[j]? := by
  have h65 : zero68.size = 65 := by decide
  have hlt : k * 65 + j < n * 65 := by omega
  have e : (k * 65 + j) % 65 = j := by omega
  unfold madeCells
  rw [Array.getElem?_map, Array.getElem?_range, if_pos hlt]
  simp only [Option.map_some, h65, e]
  rw [Array.getElem?_eq_getElem (by rw [h65]; exact hj), getElem!_pos zero68 j (by rw [h65]; exact hj)]

theorem zero68_at (j : Nat) : zero68[j]? = if j < 64 then some (.int .u8 0) else if j = 64 then some (.slice none 0 0) else none := by
  have h65 : zero68.size = 65 := by decide
  unfold zero68
  rw [List.getElem?_toArray]
  by_cases h : j < 64
  · rw [if_pos h, List.getElem?_append_left (by rw [bys_length]; exact h), zeros_at h]
  · rw [if_neg h, List.getElem?_append_right (by rw [bys_length]; exact Nat.le_of_not_lt h), bys_length]
    show ([Value.slice none 0 0] : List Value)[j - 64]? = _
    by_cases e : j = 64
    · rw [if_pos e, e]; rfl
    · rw [if_neg e, List.getElem?_eq_none (by simp; omega)]

theorem fresh_cell (w : World) (n k : Nat) (hk : k < n) (o : Obj) : CellIs ((w.alloc (.cells (madeCells zero68 (n * 65)) 84)).alloc o) w.heap.size (k * 65) zeros64 none 0 [] := by
  have hc : ∀ j, j < 65 → ((w.alloc (.cells (madeCells zero68 (n * 65)) 84)).alloc o).cell? ⟨w.heap.size, k * 65 + j, none⟩ = zero68[j]? := fun j hj => by
    rw [World.cell?_alloc_lt _ _ _ (by simp), World.cell?_alloc_new]
    exact made_at7 n k j hk hj
  refine ⟨fun j v hv => ?_, ?_, ⟨rfl, Or.inl ⟨rfl, rfl⟩⟩, by simp [Value.ownBlock], rfl, by simp⟩
  · have hj : j < 64 := by have := (List.getElem?_eq_some_iff.1 hv).1; rw [bys_length] at this; exact this
    rw [hc j (by omega), zero68_at, if_pos hj]
    rw [zeros_at hj] at hv
    exact hv
  · rw [hc 64 (by omega), zero68_at]
    rfl

theorem fresh_dev (w : World) (n : Nat) (h1 : 1 ≤ n) (h2 : n ≤ 480) : DIs ((w.alloc (.cells (madeCells zero68 (n * 65)) 84)).alloc (.cells #[.bool false, .bool false, .int .i64 0, .slice (some ⟨w.heap.size, 0, none⟩) n n] 78)) (w.heap.size + 1) w.heap.size (fun _ => none) (fun _ => 0) (freshD n) := by
  have e1 : w.heap.size + 1 = (w.alloc (.cells (madeCells zero68 (n * 65)) 84)).heap.size := by simp
  refine ⟨by omega, h1, h2, fresh_ok n, ?_, ⟨false, 0, ?_, ?_, by decide, Or.inl ⟨rfl, rfl⟩⟩, ?_, fun j => ?_, fun j => ?_, fun k hk => fresh_cell w n k hk _, (fun k _ h => by cases h), fun i j _ _ _ => Or.inl rfl⟩
  · rw [e1, World.cell?_alloc_new]; rfl
  · rw [e1, World.cell?_alloc_new]; rfl
  · rw [e1, World.cell?_alloc_new]; rfl
  · rw [e1, World.cell?_alloc_new]; rfl
  · rw [e1, World.frozen?_alloc_mark]; simp
  · rw [World.frozen?_alloc_past _ _ _ (by simp), World.frozen?_alloc_mark]; simp

set_option maxHeartbeats 800000 in
theorem new_no (n : Int) (w : World) (hn : -9223372036854775808 ≤ n ∧ n ≤ 9223372036854775807) (h : n < 1 ∨ 480 < n) : Calls Try.prog 19 #[.int .i64 n] w fun e w' => e = .returned (.tuple #[.pointer none, .int .i64 1]) ∧ Below w.heap.size w w' := by
  clear hn
  by_cases h1 : n < 1
  · clear h
    go_enter Try.func19, Try.ntmps19
    go_wp2_with fail
    go_ret2
    exact ⟨rfl, Below.refl _ _⟩
  · have h2 : 480 < n := by omega
    clear h
    go_enter Try.func19, Try.ntmps19
    go_wp2_with fail
    go_ret2
    exact ⟨rfl, Below.refl _ _⟩

set_option maxRecDepth 100000 in
set_option maxHeartbeats 800000 in
theorem new_ok (n : Nat) (w : World) (h1 : 1 ≤ n) (h2 : n ≤ 480) : Calls Try.prog 19 #[.int .i64 n] w fun e w' => ∃ a F, e = .returned (.tuple #[.pointer (some a), .int .i64 0]) ∧ DI w' a F (freshD n) ∧ (∀ k, F k → w.heap.size ≤ k) ∧ Below w.heap.size w w' := by
  have hmk := run_make_cells w n h2
  have HF := Lib.hid (fresh_dev w n h1 h2)
  have HB := Lib.hid ((Below.refl w.heap.size w).alloc (Nat.le_refl _) (.cells (madeCells zero68 (n * 65)) 84))
  have HS : Hid ((w.alloc (.cells (madeCells zero68 (n * 65)) 84)).heap.size = w.heap.size + 1) := Lib.hid (by simp)
  obtain ⟨g, hg⟩ : ∃ g, g = w.heap.size := ⟨_, rfl⟩
  generalize w.alloc (.cells (madeCells zero68 (n * 65)) 84) = w1 at *
  rw [← hg] at hmk HF HB HS ⊢
  have HG := Lib.hid hg
  clear hg
  go_enter Try.func19, Try.ntmps19
  go_wp2_with fail
  go_ret2
  refine ⟨⟨w1.heap.size, 0, none⟩, _, rfl, ⟨g + 1, g, _, _, by rw [HS.out], HF.out, rfl⟩, fun k hk => ?_, ?_⟩
  · rcases hk with rfl | rfl | ⟨i, _, e⟩
    · omega
    · exact Nat.le_refl _
    · cases e
  · exact HB.out.alloc (by rw [HS.out]; omega) _

end Go.Proofs.Ytbnepjojfaeggaa

namespace Go.Proofs.Ytbnepjojfaeggaa
open Go.RowKit
set_option linter.unusedVariables false
set_option linter.unusedSimpArgs false

set_option maxHeartbeats 400000 in
theorem get_nil (n : Int) (w : World) : Calls Try.prog 38 #[.pointer none, .int .i64 n] w fun e w' => ∃ v, e = .returned (.tuple #[v, .int .i64 1]) ∧ Fresh w' w.heap.size v [] ∧ Below w.heap.size w w' := by
  have c := ready_nil w
  go_enter Try.func38, Try.ntmps38
  go_wp2_with (go_at_call 40; refine c.mono ?_; rintro e w' ⟨rfl, rfl⟩)
  go_ret2
  exact ⟨.slice none 0 0, rfl, Fresh.nil _ _, Below.refl _ _⟩

theorem hist_last {s : DM} (h : s.Ok) (k : Nat) : (s.hist k).getLastD [] ∈ s.hist k := by
  cases hh : s.hist k with
  | nil => exact absurd hh (h k).1
  | cons x r =>
    rw [List.getLastD_eq_getLast?, List.getLast?_eq_getElem?]
    have hlt : (x :: r).length - 1 < (x :: r).length := by rw [List.length_cons]; omega
    rw [List.getElem?_eq_getElem hlt]
    exact List.getElem_mem hlt

theorem fresh_range {w : World} {base g : Nat} {c : List Int} (hg : base ≤ g) (hr : w.rangeAt g 0 (bys c)) (hc : c.length = 64) (hz : ∀ z ∈ c, 0 ≤ z ∧ z ≤ 255) (hf : ∀ j, w.frozen? ⟨g, j, none⟩ = false) : Fresh w base (.slice (some ⟨g, 0, none⟩) 64 64) c := by
  refine ⟨some ⟨g, 0, none⟩, 64, by rw [hc], ⟨⟨rfl, by omega, hz, Or.inr ⟨g, 0, rfl, fun j hj => ?_⟩⟩, (fun h => by cases h), by omega, by omega⟩, Or.inr ⟨g, 0, rfl, hg, fun j _ => hf _⟩⟩
  refine hr j _ ?_
  unfold bys
  rw [List.getElem?_map, List.getElem?_eq_getElem hj]
  simp [List.getD, hj]

theorem stored65f {w w1 : World} {n1 : Nat} {c : List Int} (hn : n1 = w.heap.size) (hw : w1 = w.alloc (.cells zero65 81)) : ∀ j, (w1.setCells n1 0 (bys c).toArray.toList).frozen? ⟨n1, j, none⟩ = false := by
  intro j
  rw [World.frozen?_setCells, hw, hn, World.frozen?_alloc_mark]
  simp

set_option maxRecDepth 100000 in
set_option maxHeartbeats 1600000 in
theorem di_get {w : World} {a : Addr} {F : Nat → Prop} {s : DM} (n : Int) (h : DI w a F s) (hn : -9223372036854775808 ≤ n ∧ n ≤ 9223372036854775807) : Calls Try.prog 38 #[.pointer (some a), .int .i64 n] w fun e w' => ∃ v, e = .returned (.tuple #[v, .int .i64 (diskErr s n)]) ∧ Fresh w' w.heap.size v (diskOut s n) ∧ Below w.heap.size w w' := by
  obtain ⟨d, g, ao, cp, rfl, h, rfl⟩ := h
  have c1 := ready_d h.off
  by_cases hoff : s.off = true
  · rw [if_pos hoff] at c1
    have HE : Hid (diskErr s n = 8) := Lib.hid (by unfold diskErr; rw [if_pos hoff])
    have HO : Hid (diskOut s n = []) := Lib.hid (by unfold diskOut; rw [HE.out]; rfl)
    clear hoff h
    go_enter Try.func38, Try.ntmps38
    go_wp2_with (go_at_call 40; refine c1.mono ?_; rintro e w' ⟨rfl, rfl⟩)
    go_ret2
    exact ⟨.slice none 0 0, by rw [HE.out]; rfl, by rw [HO.out]; exact Fresh.nil _ _, Below.refl _ _⟩
  · rw [if_neg hoff] at c1
    have c2 := has_of (blocks_d h.sl) n
    by_cases hin : 0 ≤ n ∧ n < s.n
    · have HE : Hid (diskErr s n = 0) := Lib.hid (by unfold diskErr; rw [if_neg hoff, if_pos hin])
      obtain ⟨c, hc⟩ : ∃ c, (s.hist n.toNat).getLastD [] = c := ⟨_, rfl⟩
      have hmem := hist_last h.ok n.toNat
      rw [hc] at hmem
      have hcok := (h.ok n.toNat).2 c hmem
      have HO : Hid (diskOut s n = c) := Lib.hid (by unfold diskOut; rw [if_pos HE.out, hc])
      rw [decide_eq_true hin] at c2
      obtain ⟨k, rfl⟩ : ∃ k : Nat, n = k := ⟨n.toNat, by omega⟩
      have i1 : (k : Int) < (s.n : Int) := hin.2
      have hk : k < s.n := by omega
      have c3 := last_cell (h.cells k hk)
      rw [Int.toNat_natCast] at hc
      rw [← hist_eq h.ok k, hc] at c3
      have hsl := h.sl
      have HC := Lib.hid hcok
      clear hc hmem hcok h hoff hin hn
      go_enter Try.func38, Try.ntmps38
      go_wp2_with (first
        | (go_at_call 40; refine c1.mono ?_; rintro e w' ⟨rfl, rfl⟩)
        | (go_at_call 43; refine c2.mono ?_; rintro e w' ⟨rfl, rfl⟩)
        | (go_at_call 53; refine c3.mono ?_; rintro e w2 ⟨rfl, hb2⟩; have HB2 := Lib.hid hb2; clear hb2)
        | (refine wp_new65 rfl rfl (some 7) rfl ?_; intro n1 w1 hn1 hw1; have HS := Lib.hid (stored65 hn1 hw1 HC.out.1); have HFR := Lib.hid (stored65f (c := c) hn1 hw1); have HN := Lib.hid hn1; clear hn1 hw1)
        | (refine wpList_store_mid rfl 81 (.tmp 7) (.tmp 23) rfl n1 0 (bys c).toArray rfl rfl HS.out.1 (i65a HC.out.1) (all_oneCell_toArray (bys_one c)) ?_))
      go_ret2
      exact ⟨_, by rw [HE.out]; rfl, by rw [HO.out]; exact fresh_range (by rw [HN.out]; exact HB2.out.size) HS.out.2.1 HC.out.1 HC.out.2 HFR.out, HB2.out.trans (HS.out.2.2.mono HB2.out.size)⟩
    · have HE : Hid (diskErr s n = 7) := Lib.hid (by unfold diskErr; rw [if_neg hoff, if_neg hin])
      have HO : Hid (diskOut s n = []) := Lib.hid (by unfold diskOut; rw [HE.out]; rfl)
      rw [decide_eq_false hin] at c2
      clear hoff h hin hn
      go_enter Try.func38, Try.ntmps38
      go_wp2_with (first
        | (go_at_call 40; refine c1.mono ?_; rintro e w' ⟨rfl, rfl⟩)
        | (go_at_call 43; refine c2.mono ?_; rintro e w' ⟨rfl, rfl⟩))
      go_ret2
      exact ⟨.slice none 0 0, by rw [HE.out]; rfl, by rw [HO.out]; exact Fresh.nil _ _, Below.refl _ _⟩

end Go.Proofs.Ytbnepjojfaeggaa

namespace Go.Proofs.Ytbnepjojfaeggaa
open Go.RowKit
set_option linter.unusedVariables false
set_option linter.unusedSimpArgs false

theorem ne_off {d i j : Nat} (h : i ≠ j) : (⟨d, i, none⟩ : Addr) ≠ ⟨d, j, none⟩ := fun e => by cases e; exact h rfl

/-- The power is asked. -/
theorem holds_di {w : World} {d g : Nat} {ao : Nat → Option Addr} {cp : Nat → Nat} {s : DM} (h : DIs w d g ao cp s) :
    Calls Try.prog 42 #[.pointer (some ⟨d, 0, none⟩)] w fun e w' => e = .returned (.bool (decide (s.left ≠ 0))) ∧ DIs w' d g ao cp (if s.left = 0 then gone s else step1 s) ∧ Grew (fun k => k = d) (fun k => k = d) w w' := by
  obtain ⟨du, l, h1, h2, hl, hp⟩ := h.pow
  rcases hp with ⟨rfl, hp⟩ | ⟨rfl, hp, h0⟩
  · refine (holds_never h1).mono ?_
    rintro e w' ⟨rfl, rfl⟩
    have e1 : step1 s = s := by
      unfold step1
      rw [if_neg (by omega)]
    rw [if_neg (by omega), e1, decide_eq_true (by omega)]
    exact ⟨rfl, h, Grew.refl _ _⟩
  · by_cases hz : s.left = 0
    · have hl0 : l = 0 := by omega
      subst hl0
      refine (holds_gone h.off h1 h2 (h.frd 0)).mono ?_
      rintro e w' ⟨rfl, rfl⟩
      rw [if_pos hz, decide_eq_false (by omega)]
      refine ⟨rfl, h.power (fun k hk => Below.heap_setCell _ _ _ _ hk) (gone s) rfl rfl (World.cell?_setCell_same _ _ _ h.off) ⟨true, 0, ?_, ?_, by decide, Or.inr ⟨rfl, hz, Int.le_refl _⟩⟩ ?_ (fun j => by simp only [World.frozen?_setCell]; exact h.frd j), Grew.setCell (fun k => k = d) w (p := ⟨d, 0, none⟩) rfl _⟩
      · rw [World.cell?_setCell_other (h := ne_off (by decide))]; exact h1
      · rw [World.cell?_setCell_other (h := ne_off (by decide))]; exact h2
      · rw [World.cell?_setCell_other (h := ne_off (by decide))]
    · refine (holds_less h1 h2 (by omega) hl.2 (h.frd 2)).mono ?_
      rintro e w' ⟨rfl, rfl⟩
      rw [if_neg hz, decide_eq_true hz]
      refine ⟨rfl, h.power (fun k hk => Below.heap_setCell _ _ _ _ hk) (step1 s) rfl rfl ?_ ⟨true, l - 1, ?_, World.cell?_setCell_same _ _ _ h2, by omega, Or.inr ⟨rfl, ?_, by omega⟩⟩ ?_ (fun j => by simp only [World.frozen?_setCell]; exact h.frd j), Grew.setCell (fun k => k = d) w (p := ⟨d, 2, none⟩) rfl _⟩
      · rw [World.cell?_setCell_other (h := ne_off (by decide))]; exact h.off
      · rw [World.cell?_setCell_other (h := ne_off (by decide))]; exact h1
      · show (if 0 < s.left then s.left - 1 else s.left) = l - 1
        rw [if_pos (by omega)]; omega
      · rw [World.cell?_setCell_other (h := ne_off (by decide))]

/-- Another state in plain words that has the same power, and the same contents. -/
theorem DIs.same {w : World} {d g : Nat} {ao : Nat → Option Addr} {cp : Nat → Nat} {s : DM} (h : DIs w d g ao cp s) {s' : DM} (hn : s'.n = s.n) (ho : s'.off = s.off) (hl : s'.left = s.left) (hok : s'.Ok) (hh : ∀ k, k < s.n → s'.hist k = s.hist k) : DIs w d g ao cp s' :=
  ⟨h.dg, by rw [hn]; exact h.n1, by rw [hn]; exact h.n480, hok, by rw [ho]; exact h.off, by rw [hl]; exact h.pow, by rw [hn]; exact h.sl, h.frd, h.frg, fun k hk => by
    rw [hn] at hk
    rw [hh k hk]; exact h.cells k hk, fun k hk => h.awayd k (by rw [← hn]; exact hk), fun i j hi hj => h.apart i j (by rw [← hn]; exact hi) (by rw [← hn]; exact hj)⟩

/-- One cell has settled. -/
theorem DIs.settle {w w' : World} {d g : Nat} {ao : Nat → Option Addr} {cp : Nat → Nat} {s : DM} (h : DIs w d g ao cp s) {i : Nat} (hi : i < s.n) {c : List Int} (hS : Settled w w' g (i * 65) c) (hc : c.length = 64 ∧ ∀ z ∈ c, 0 ≤ z ∧ z ≤ 255) :
    DIs w' d g (fun k => if k = i then none else ao k) (fun k => if k = i then 0 else cp k) { s with hist := fun k => if k = i then [c] else s.hist k } := by
  have hdl : d < w.heap.size := World.block_lt_of_cell? _ _ h.off
  have hd : w'.heap[d]? = w.heap[d]? := hS.grew.2.2.2.2.1 d hdl h.dg
  have hcell : ∀ j, w'.cell? ⟨d, j, none⟩ = w.cell? ⟨d, j, none⟩ := fun j => cell_of_heap (p := ⟨d, j, none⟩) hd
  refine ⟨h.dg, h.n1, h.n480, fun k => ?_, by rw [hcell]; exact h.off, by rw [hcell, hcell]; exact h.pow, by rw [hcell]; exact h.sl, fun j => ?_, fun j => by rw [hS.frz]; exact h.frg j, fun k hk => ?_, fun k hk => ?_, fun k l hk hl hkl => ?_⟩
  · show (if k = i then [c] else s.hist k) ≠ [] ∧ ∀ x ∈ (if k = i then [c] else s.hist k), _
    by_cases e : k = i
    · rw [if_pos e]
      exact ⟨by simp, fun x hx => by rw [List.mem_singleton.1 hx]; exact hc⟩
    · rw [if_neg e]; exact h.ok k
  · rw [World.frozen?_of_block (w := w) (a := ⟨d, j, none⟩) hd]; exact h.frd j
  · show CellIs w' g (k * 65) ((if k = i then [c] else s.hist k).headD []) (if k = i then none else ao k) (if k = i then 0 else cp k) (if k = i then [c] else s.hist k).tail
    by_cases e : k = i
    · subst e
      simp only [if_pos]
      exact ⟨hS.last, hS.opn, ⟨rfl, Or.inl ⟨rfl, rfl⟩⟩, by simp [Value.ownBlock], hc.1, by simp⟩
    · simp only [if_neg e]
      have hk' : k < s.n := hk
      have hC := h.cells k hk'
      have ho : k * 65 + 65 ≤ i * 65 ∨ i * 65 + 65 ≤ k * 65 := by omega
      refine ⟨fun j v hv => ?_, ?_, owns_turn hC.row (fun b hb => ?_), hC.away, hC.len⟩
      · have hj : j < 64 := by have := (List.getElem?_eq_some_iff.1 hv).1; rw [bys_length, hC.len.1] at this; exact this
        rw [hS.rest _ (by omega)]
        exact hC.last j v hv
      · rw [hS.rest _ (by omega)]; exact hC.opn
      · refine hS.grew.2.2.2.2.1 b (hC.row.lt b hb).2 (fun e' => hC.away ?_)
        rw [hb, e']
  · show (if k = i then none else ao k) ≠ _
    by_cases e : k = i
    · rw [if_pos e]; intro h; cases h
    · rw [if_neg e]; exact h.awayd k hk
  · show (if k = i then none else ao k) = none ∨ (if k = i then none else ao k) ≠ (if l = i then none else ao l)
    by_cases e1 : k = i
    · rw [if_pos e1]; exact Or.inl rfl
    · rw [if_neg e1]
      by_cases e2 : l = i
      · rw [if_pos e2]
        cases hk' : ao k with
        | none => exact Or.inl rfl
        | some x => exact Or.inr (by intro e; cases e)
      · rw [if_neg e2]; exact h.apart k l hk hl hkl

/-- The first i cells have settled, of cell k so many writes are kept. -/
def mid (s : DM) (m : Nat → Int) (i : Nat) : DM := { s with hist := fun k => if k < i then keepAt (s.hist k) (m k) else s.hist k }

theorem mid_zero (s : DM) (m : Nat → Int) : mid s m 0 = s := by
  unfold mid
  simp

theorem mid_succ (s : DM) (m : Nat → Int) (i : Nat) : mid s m (i + 1) = { mid s m i with hist := fun k => if k = i then keepAt (s.hist i) (m i) else (mid s m i).hist k } := by
  unfold mid
  congr 1
  funext k
  by_cases e : k = i
  · subst e
    simp
  · simp only [if_neg e]
    by_cases h : k < i
    · rw [if_pos h, if_pos (by omega)]
    · rw [if_neg h, if_neg (by omega)]

theorem mid_hist (s : DM) (m : Nat → Int) (i : Nat) : (mid s m i).hist i = s.hist i := by
  show (if i < i then _ else s.hist i) = _
  rw [if_neg (Nat.lt_irrefl i)]

/-- The loop of Barrier and of Restart behind i rounds. -/
def Mids (w0 : World) (d g : Nat) (F : Nat → Prop) (s : DM) (m : Nat → Int) (i : Nat) (wr : World) : Prop :=
  ∃ ao cp, DIs wr d g ao cp (mid s m i) ∧ (∀ k, Foot d g ao s.n k → F k) ∧ Grew F F w0 wr

theorem keep_ok {s : DM} (h : s.Ok) (k : Nat) (n : Int) : ∃ c, keepAt (s.hist k) n = [c] ∧ c ∈ s.hist k ∧ ((s.hist k).headD [] :: (s.hist k).tail).getD (keptN n (s.hist k).tail.length) [] = c := by
  refine ⟨_, rfl, ?_, ?_⟩
  · have hne := (h k).1
    have hlt : min n.toNat ((s.hist k).length - 1) < (s.hist k).length := by have := List.length_pos_iff.2 hne; omega
    rw [List.getD_eq_getElem?_getD, List.getElem?_eq_getElem hlt]
    exact List.getElem_mem hlt
  · rw [← hist_eq h k, List.length_tail]
    rfl

theorem Mids.step {w0 : World} {d g : Nat} {F : Nat → Prop} {s : DM} {m : Nat → Int} {i : Nat} {wr w' : World} {ao : Nat → Option Addr} {cp : Nat → Nat} (hs : s.Ok) (h : DIs wr d g ao cp (mid s m i)) (hF : ∀ k, Foot d g ao s.n k → F k) (hG : Grew F F w0 wr) (hi : i < s.n)
    (hS : Settled wr w' g (i * 65) (((s.hist i).headD [] :: (s.hist i).tail).getD (keptN (m i) (s.hist i).tail.length) [])) : Mids w0 d g F s m (i + 1) w' := by
  obtain ⟨c, hk, hmem, hc⟩ := keep_ok hs i (m i)
  rw [hc] at hS
  refine ⟨fun k => if k = i then none else ao k, fun k => if k = i then 0 else cp k, ?_, fun k hk => ?_, hG.trans ⟨hS.grew.1, hS.grew.2.1, hS.grew.2.2.1, hS.grew.2.2.2.1, fun k hk hF' => hS.grew.2.2.2.2.1 k hk (fun e => hF' (hF k (Or.inr (Or.inl e)))), fun k hk => Or.inl hk⟩⟩
  · rw [mid_succ, hk]
    exact h.settle hi hS ((hs i).2 c hmem)
  · rcases hk with h | h | ⟨j, hj, e⟩
    · exact hF k (Or.inl h)
    · exact hF k (Or.inr (Or.inl h))
    · refine hF k (Or.inr (Or.inr ⟨j, hj, ?_⟩))
      by_cases e' : j = i
      · simp only [if_pos e'] at e; cases e
      · simp only [if_neg e'] at e; exact e

theorem grew_in {F : Nat → Prop} {d : Nat} {w w' : World} (h : Grew (fun k => k = d) (fun k => k = d) w w') (hd : F d) : Grew F F w w' :=
  ⟨h.1, h.2.1, h.2.2.1, h.2.2.2.1, fun k hk hF => h.2.2.2.2.1 k hk (fun e => hF (by rw [e]; exact hd)), fun k hk => Or.inl hk⟩

theorem last_ok {s : DM} (h : s.Ok) : (lastOnly s).Ok := fun k => ⟨by show [(s.hist k).getLastD []] ≠ []; simp, fun c hc => by
  have hc : c ∈ [(s.hist k).getLastD []] := hc
  rw [List.mem_singleton.1 hc]
  exact (h k).2 _ (hist_last h k)⟩

theorem keep_last {s : DM} (h : s.Ok) (k : Nat) : keepAt (s.hist k) (((s.hist k).length - 1 : Nat) : Int) = [(s.hist k).getLastD []] := by
  unfold keepAt
  rw [Int.toNat_natCast, Nat.min_self, List.getLastD_eq_getLast?, List.getLast?_eq_getElem?, List.getD_eq_getElem?_getD]

set_option maxHeartbeats 400000 in
theorem bar_nil (w : World) : Calls Try.prog 26 #[.pointer none] w fun e w' => e = .returned (.int .i64 1) ∧ w = w' := by
  have c := ready_nil w
  go_enter Try.func26, Try.ntmps26
  go_wp2_with (go_at_call 40; refine c.mono ?_; rintro e w' ⟨rfl, rfl⟩)
  go_ret
  exact ⟨rfl, rfl⟩

set_option maxHeartbeats 400000 in
theorem res_nil (ao : Option Addr) (m cap : Nat) (w : World) : Calls Try.prog 16 #[.pointer none, .slice ao m cap] w fun e w' => e = .returned (.tuple #[]) ∧ w = w' := by
  go_enter Try.func16, Try.ntmps16
  go_wp2_with fail
  refine bodyPost_ret (results_none rfl _ _ _) rfl ?_
  exact ⟨rfl, rfl⟩

set_option maxRecDepth 100000 in
set_option maxHeartbeats 1600000 in
theorem di_barrier {w : World} {a : Addr} {F : Nat → Prop} {s : DM} (h : DI w a F s) : Calls Try.prog 26 #[.pointer (some a)] w fun e w' => ∃ F', e = .returned (.int .i64 (barRes s).2) ∧ DI w' a F' (barRes s).1 ∧ Grew F F' w w' := by
  obtain ⟨d, g, ao, cp, rfl, h, rfl⟩ := h
  have c1 := ready_d h.off
  by_cases hoff : s.off = true
  · rw [if_pos hoff] at c1
    have HE : Hid (barRes s = (s, 8)) := Lib.hid (by unfold barRes; rw [if_pos hoff])
    have H := Lib.hid h
    clear hoff h
    go_enter Try.func26, Try.ntmps26
    go_wp2_with (go_at_call 40; refine c1.mono ?_; rintro e w' ⟨rfl, rfl⟩)
    go_ret
    exact ⟨_, by rw [HE.out]; rfl, by rw [HE.out]; exact ⟨d, g, ao, cp, rfl, H.out, rfl⟩, Grew.refl _ _⟩
  · rw [if_neg hoff] at c1
    have c2 := holds_di h
    by_cases hz : s.left = 0
    · rw [if_pos hz, decide_eq_false (by omega)] at c2
      have HE : Hid (barRes s = (gone s, 8)) := Lib.hid (by unfold barRes; rw [if_neg hoff, if_pos hz])
      clear hoff h hz
      go_enter Try.func26, Try.ntmps26
      go_wp2_with (first
        | (go_at_call 40; refine c1.mono ?_; rintro e w' ⟨rfl, rfl⟩)
        | (go_at_call 42; refine c2.mono ?_; rintro e w2 ⟨rfl, hd2, hg2⟩; have HD2 := Lib.hid hd2; have HG2 := Lib.hid hg2; clear hd2 hg2))
      go_ret
      exact ⟨_, by rw [HE.out]; rfl, by rw [HE.out]; exact ⟨d, g, ao, cp, rfl, HD2.out, rfl⟩, grew_in HG2.out (Or.inl rfl)⟩
    · rw [if_neg hz, decide_eq_true hz] at c2
      obtain ⟨n, hnn⟩ : ∃ n, s.n = n := ⟨_, rfl⟩
      have hn4 := h.n480
      rw [hnn] at hn4
      have HE : Hid (barRes s = (lastOnly (step1 s), 0)) := Lib.hid (by unfold barRes; rw [if_neg hoff, if_neg hz])
      obtain ⟨s1, hs1⟩ : ∃ s1, step1 s = s1 := ⟨_, rfl⟩
      rw [hs1] at c2 HE
      have hn1 : s1.n = n := by rw [← hs1]; exact hnn
      have hok1 : s1.Ok := by rw [← hs1]; exact h.ok
      have HNN := Lib.hid hnn
      have HN1 := Lib.hid hn1
      have HOK := Lib.hid hok1
      have hsl := h.sl
      rw [hnn] at hsl
      clear hoff h hz hs1 hnn hn1 hok1
      go_enter Try.func26, Try.ntmps26
      go_wp2_with (first
        | (go_at_call 40; refine c1.mono ?_; rintro e w' ⟨rfl, rfl⟩)
        | (go_at_call 42; refine c2.mono ?_; rintro e w2 ⟨rfl, hd2, hg2⟩; have HD2 := Lib.hid hd2; have hsl2 := hd2.sl; rw [HN1.out] at hsl2; have HG2 : Hid (Grew (Foot d g ao s.n) (Foot d g ao s.n) w w2) := Lib.hid (grew_in hg2 (Or.inl rfl)); clear hd2 hg2))
      clear c1 c2 hsl
      have HM0 : Hid (Mids w d g (Foot d g ao s.n) s1 (fun k => (((s1.hist k).length - 1 : Nat) : Int)) 0 w2) := Lib.hid ⟨ao, cp, by rw [mid_zero]; exact HD2.out, fun k hk => by rw [HNN.out]; rw [HN1.out] at hk; exact hk, HG2.out⟩
      clear HD2 HG2 hsl2
      go_loopw [21] (fun iv wr => ∃ i : Nat, iv = .int .i64 (i : Int) ∧ i ≤ n ∧ Hid (Mids w d g (Foot d g ao s.n) s1 (fun k => (((s1.hist k).length - 1 : Nat) : Int)) i wr)) (fun iv _ => n - (intOf iv).toNat)
      case atStart => exact ⟨0, rfl, Nat.zero_le _, HM0⟩
      case round =>
        clear HM0
        obtain ⟨i, rfl, hi, HM⟩ := hrel
        obtain ⟨ao1, cp1, hD, hF1, hG1⟩ := HM.out
        have HD := Lib.hid hD
        have HF1 := Lib.hid hF1
        have HG1 := Lib.hid hG1
        have hsl := hD.sl
        have hnm : (mid s1 (fun k => (((s1.hist k).length - 1 : Nat) : Int)) i).n = n := HN1.out
        rw [hnm] at hsl
        by_cases hlt : i < n
        · have hC := hD.cells i (by rw [hnm]; exact hlt)
          rw [mid_hist] at hC
          have hopn := hC.opn
          have hLL : (s1.hist i).tail.length = (s1.hist i).length - 1 := List.length_tail
          obtain ⟨L, hL⟩ : ∃ L, (s1.hist i).tail.length = L := ⟨_, rfl⟩
          rw [hL] at hopn
          have cS := settle_any hC hD.frg (L : Int)
          have HLL : Hid ((((s1.hist i).length - 1 : Nat) : Int) = (L : Int)) := Lib.hid (by rw [← hLL, hL])
          have i1 : (i : Int) < (n : Int) := by omega
          clear hD hF1 hG1 hnm hC hLL hL HM
          go_wp2_with (go_at_call 32; refine cS.mono ?_; rintro e w3 ⟨rfl, hS⟩; have HS := Lib.hid hS; clear hS)
          go_roundw
          case rel =>
            refine ⟨i + 1, by go_num, by omega, Lib.hid (Mids.step HOK.out HD.out (fun k hk => HF1.out k hk) HG1.out (by rw [HN1.out]; exact hlt) ?_)⟩
            show Settled wr w3 g (i * 65) (((s1.hist i).headD [] :: (s1.hist i).tail).getD (keptN (((s1.hist i).length - 1 : Nat) : Int) (s1.hist i).tail.length) [])
            rw [HLL.out]
            exact HS.out
          case measure => simp [intOf]; omega
        · have hin : i = n := by omega
          subst hin
          clear hD hF1 hG1 hnm HM
          go_wp2_with fail
          go_ret
          refine ⟨Foot d g ao1 i, by rw [HE.out]; rfl, ?_, HG1.out.1, HG1.out.2.1, HG1.out.2.2.1, HG1.out.2.2.2.1, HG1.out.2.2.2.2.1, fun k hk => Or.inl (HF1.out k (by rw [HN1.out]; exact hk))⟩
          rw [HE.out]
          refine ⟨d, g, ao1, cp1, rfl, HD.out.same rfl rfl rfl (last_ok HOK.out) (fun k hk => ?_), by rw [show (lastOnly s1).n = i from HN1.out]⟩
          have hk' : k < i := by
            have h1 : (mid s1 (fun k => (((s1.hist k).length - 1 : Nat) : Int)) i).n = i := HN1.out
            omega
          show [(s1.hist k).getLastD []] = (if k < i then keepAt (s1.hist k) _ else s1.hist k)
          rw [if_pos hk']
          exact (keep_last HOK.out k).symm

end Go.Proofs.Ytbnepjojfaeggaa

namespace Go.Proofs.Ytbnepjojfaeggaa
open Go.RowKit
set_option linter.unusedVariables false
set_option linter.unusedSimpArgs false

theorem restart_ok {s : DM} (h : s.Ok) (ks : List Int) : (restarted s ks).Ok := fun k => by
  obtain ⟨c, hc, hmem, _⟩ := keep_ok h k (ks.getD k 0)
  show keepAt (s.hist k) (ks.getD k 0) ≠ [] ∧ ∀ x ∈ keepAt (s.hist k) (ks.getD k 0), _
  rw [hc]
  exact ⟨by simp, fun x hx => by rw [List.mem_singleton.1 hx]; exact (h k).2 c hmem⟩

theorem mid_ok {s : DM} (h : s.Ok) (m : Nat → Int) (i : Nat) : (mid s m i).Ok := fun k => by
  show (if k < i then keepAt (s.hist k) (m k) else s.hist k) ≠ [] ∧ ∀ x ∈ (if k < i then keepAt (s.hist k) (m k) else s.hist k), _
  by_cases e : k < i
  · rw [if_pos e]
    obtain ⟨c, hc, hmem, _⟩ := keep_ok h k (m k)
    rw [hc]
    exact ⟨by simp, fun x hx => by rw [List.mem_singleton.1 hx]; exact (h k).2 c hmem⟩
  · rw [if_neg e]; exact h k

/-- The power is set anew. -/
theorem DIs.reset {w : World} {d g : Nat} {ao : Nat → Option Addr} {cp : Nat → Nat} {s : DM} (h : DIs w d g ao cp s) : DIs (w.setCells d 0 [.bool false, .bool false, .int .i64 0]) d g ao cp { s with left := -1, off := false } ∧ Grew (fun k => k = d) (fun k => k = d) w (w.setCells d 0 [.bool false, .bool false, .int .i64 0]) := by
  obtain ⟨du, l, h1, h2, _, _⟩ := h.pow
  refine ⟨h.power (fun k hk => ?_) _ rfl rfl ?_ ⟨false, 0, ?_, ?_, by decide, Or.inl ⟨rfl, rfl⟩⟩ ?_ (fun j => by rw [World.frozen?_setCells]; exact h.frd j), Grew.setCells (fun k => k = d) (b := d) rfl _ _ _⟩
  · show (((w.setCell ⟨d, 0, none⟩ (.bool false)).setCell ⟨d, 1, none⟩ (.bool false)).setCell ⟨d, 2, none⟩ (.int .i64 0)).heap[k]? = _
    rw [Below.heap_setCell _ _ _ _ hk, Below.heap_setCell _ _ _ _ hk, Below.heap_setCell _ _ _ _ hk]
  · show (((w.setCell ⟨d, 0, none⟩ (.bool false)).setCell ⟨d, 1, none⟩ (.bool false)).setCell ⟨d, 2, none⟩ (.int .i64 0)).cell? ⟨d, 0, none⟩ = _
    rw [World.cell?_setCell_other (h := ne_off (by decide)), World.cell?_setCell_other (h := ne_off (by decide))]
    exact World.cell?_setCell_same _ _ _ h.off
  · show (((w.setCell ⟨d, 0, none⟩ (.bool false)).setCell ⟨d, 1, none⟩ (.bool false)).setCell ⟨d, 2, none⟩ (.int .i64 0)).cell? ⟨d, 1, none⟩ = _
    rw [World.cell?_setCell_other (h := ne_off (by decide))]
    exact World.cell?_setCell_same _ _ _ (by rw [World.cell?_setCell_other (h := ne_off (by decide))]; exact h1)
  · show (((w.setCell ⟨d, 0, none⟩ (.bool false)).setCell ⟨d, 1, none⟩ (.bool false)).setCell ⟨d, 2, none⟩ (.int .i64 0)).cell? ⟨d, 2, none⟩ = _
    exact World.cell?_setCell_same _ _ _ (by rw [World.cell?_setCell_other (h := ne_off (by decide)), World.cell?_setCell_other (h := ne_off (by decide))]; exact h2)
  · show (((w.setCell ⟨d, 0, none⟩ (.bool false)).setCell ⟨d, 1, none⟩ (.bool false)).setCell ⟨d, 2, none⟩ (.int .i64 0)).cell? ⟨d, 3, none⟩ = _
    rw [World.cell?_setCell_other (h := ne_off (by decide)), World.cell?_setCell_other (h := ne_off (by decide)), World.cell?_setCell_other (h := ne_off (by decide))]

theorem DIs.there3 {w : World} {d g : Nat} {ao : Nat → Option Addr} {cp : Nat → Nat} {s : DM} (h : DIs w d g ao cp s) : w.there d 0 3 := by
  obtain ⟨du, l, h1, h2, _, _⟩ := h.pow
  intro j hj
  refine ⟨?_, h.frd _⟩
  rw [Nat.zero_add]
  match j, hj with
  | 0, _ => rw [h.off]; rfl
  | 1, _ => rw [h1]; rfl
  | 2, _ => rw [h2]; rfl

theorem p60 : (#[Value.bool false, .bool false, .int .i64 0] : Array Value).all (·.oneCell') = true := all_oneCell_toArray (cs := [Value.bool false, .bool false, .int .i64 0]) (by simp [Value.oneCell'])
theorem i60 : (Try.prog.info? 75).map (·.size) = some (#[Value.bool false, .bool false, .int .i64 0] : Array Value).size := by kernel_rfl

set_option maxRecDepth 100000 in
set_option maxHeartbeats 1600000 in
theorem di_restart {w : World} {a : Addr} {F : Nat → Prop} {s : DM} (G : Nat → Prop) (ko : Option Addr) (m cap : Nat) (ks : List Int) (h : DI w a F s) (hN : NumsAre w G ko m ks) (hFG : ∀ k, F k → ¬ G k) :
    Calls Try.prog 16 #[.pointer (some a), .slice ko m cap] w fun e w' => ∃ F', e = .returned (.tuple #[]) ∧ DI w' a F' (restarted s ks) ∧ Grew F F' w w' := by
  obtain ⟨d, g, ao, cp, rfl, h, rfl⟩ := h
  obtain ⟨n, hnn⟩ : ∃ n, s.n = n := ⟨_, rfl⟩
  have hn4 := h.n480
  rw [hnn] at hn4
  have HNN := Lib.hid hnn
  have HOK := Lib.hid h.ok
  have hsl := h.sl
  rw [hnn] at hsl
  have HFG := Lib.hid hFG
  have HN := Lib.hid hN
  have HM0 : Hid (Mids w d g (Foot d g ao s.n) s (fun k => ks.getD k 0) 0 w) := Lib.hid ⟨ao, cp, by rw [mid_zero]; exact h, fun k hk => hk, Grew.refl _ _⟩
  clear h hnn hFG hN
  go_enter Try.func16, Try.ntmps16
  go_wp2_with fail
  clear hsl
  go_loopw [13] (fun iv wr => ∃ i : Nat, iv = .int .i64 (i : Int) ∧ i ≤ n ∧ Hid (Mids w d g (Foot d g ao s.n) s (fun k => ks.getD k 0) i wr)) (fun iv _ => n - (intOf iv).toNat)
  case atStart => exact ⟨0, rfl, Nat.zero_le _, HM0⟩
  case round =>
    clear HM0
    obtain ⟨i, rfl, hi, HM⟩ := hrel
    obtain ⟨ao1, cp1, hD, hF1, hG1⟩ := HM.out
    have HD := Lib.hid hD
    have HF1 := Lib.hid hF1
    have HG1 := Lib.hid hG1
    have hsl := hD.sl
    have hnm : (mid s (fun k => ks.getD k 0) i).n = n := HNN.out
    rw [hnm] at hsl
    by_cases hlt : i < n
    · have hC := hD.cells i (by rw [hnm]; exact hlt)
      rw [mid_hist] at hC
      have i1 : (i : Int) < (n : Int) := by omega
      by_cases him : i < m
      · obtain ⟨b, off, rfl, hGb, hks⟩ := HN.out.2.resolve_left (by omega)
        have hx : ks[i]? = some (ks.getD i 0) := by rw [List.getD_eq_getElem?_getD, List.getElem?_eq_getElem (by rw [HN.out.1]; exact him)]; rfl
        obtain ⟨hcw, hxb⟩ := hks i _ hx
        obtain ⟨x, hxe⟩ : ∃ x, ks.getD i 0 = x := ⟨_, rfl⟩
        have hcell : wr.cell? ⟨b, off + i, none⟩ = some (.int .i64 x) := by
          rw [cell_of_heap (p := ⟨b, off + i, none⟩) (hG1.2.2.2.2.1 b (World.block_lt_of_cell? _ _ hcw) (fun hf => HFG.out b hf hGb)), hcw, hxe]
        have cS := settle_any hC hD.frg x
        have HX := Lib.hid hxe
        have i2 : (i : Int) < (m : Int) := by omega
        clear hD hF1 hG1 hnm hC HM hks hx hcw hxb hxe
        go_wp2_with (go_at_call 32; refine cS.mono ?_; rintro e w3 ⟨rfl, hS⟩; have HS := Lib.hid hS; clear hS)
        go_roundw
        case rel =>
          refine ⟨i + 1, by go_num, by omega, Lib.hid (Mids.step HOK.out HD.out (fun k hk => HF1.out k hk) HG1.out (by rw [HNN.out]; exact hlt) ?_)⟩
          show Settled wr w3 g (i * 65) (((s.hist i).headD [] :: (s.hist i).tail).getD (keptN (ks.getD i 0) (s.hist i).tail.length) [])
          rw [HX.out]
          exact HS.out
        case measure => simp [intOf]; omega
      · have cS := settle_any hC hD.frg 0
        have HX : Hid (ks.getD i 0 = 0) := Lib.hid (by rw [List.getD_eq_getElem?_getD, List.getElem?_eq_none (by rw [HN.out.1]; omega)]; rfl)
        have i2 : ¬ (i : Int) < (m : Int) := by omega
        clear hD hF1 hG1 hnm hC HM
        go_wp2_with (go_at_call 32; refine cS.mono ?_; rintro e w3 ⟨rfl, hS⟩; have HS := Lib.hid hS; clear hS)
        go_roundw
        case rel =>
          refine ⟨i + 1, by go_num, by omega, Lib.hid (Mids.step HOK.out HD.out (fun k hk => HF1.out k hk) HG1.out (by rw [HNN.out]; exact hlt) ?_)⟩
          show Settled wr w3 g (i * 65) (((s.hist i).headD [] :: (s.hist i).tail).getD (keptN (ks.getD i 0) (s.hist i).tail.length) [])
          rw [HX.out]
          exact HS.out
        case measure => simp [intOf]; omega
    · have hin : i = n := by omega
      subst hin
      have HT := Lib.hid hD.there3
      have HR := Lib.hid hD.reset
      clear hD hF1 hG1 hnm HM
      go_wp2_with (refine wpList_store_mid rfl 75 (.tmp 36) (.tmp 34) rfl d 0 #[.bool false, .bool false, .int .i64 0] rfl rfl HT.out i60 p60 ?_)
      go_end0
      refine ⟨rfl, Foot d g ao1 i, ?_, ?_⟩
      · refine ⟨d, g, ao1, cp1, rfl, HR.out.1.same rfl rfl rfl (restart_ok HOK.out ks) (fun k hk => ?_), by rw [show (restarted s ks).n = i from HNN.out]⟩
        have hk' : k < i := by
          have h1 : (mid s (fun k => ks.getD k 0) i).n = i := HNN.out
          exact h1 ▸ hk
        show keepAt (s.hist k) (ks.getD k 0) = (if k < i then keepAt (s.hist k) (ks.getD k 0) else s.hist k)
        rw [if_pos hk']
      · have hG2 := HG1.out.trans (grew_in (F := Foot d g ao s.n) HR.out.2 (Or.inl rfl))
        exact ⟨hG2.1, hG2.2.1, hG2.2.2.1, hG2.2.2.2.1, hG2.2.2.2.2.1, fun k hk => Or.inl (HF1.out k (by rw [HNN.out]; exact hk))⟩

end Go.Proofs.Ytbnepjojfaeggaa
