/-
  Said here: nodes in plain words: when one is sound, its half of a block, what half a block is; what is known of extents in memory.
  No conditions but those that each theorem names.
-/
import Derived.Test.YtojfhhmjoledjaaNRun
import Derived.Test.YtojfhhmjoledjaaSealShort
namespace Go.Proofs.Ytojfhhmjoledjaa
open Go.RowKit
set_option linter.unusedVariables false
set_option linter.unusedSimpArgs false

/-- An extent: where in the file, its run's first block, and how many. -/
structure PX where
  a : Int
  f : Int
  c : Int
  deriving DecidableEq

structure PNode where
  k : Int
  f : Int
  l : Int
  z : Int
  d0 : Int
  d1 : Int
  d2 : Int
  d3 : Int
  s : Int
  t : Int
  x : List PX
  c : Int
  deriving DecidableEq

def ptrOk (p : Int) : Bool := decide (p = 0 ∨ 59 ≤ p ∧ p ≤ 479)
def meetsX (x y : PX) : Bool := decide (1 ≤ meetN x.f x.c y.f y.c)
def okX (e b : Int) (x : PX) : Bool := runOk x.f x.c && (decide (59 ≤ x.f) && (decide (e ≤ x.a ∧ x.a ≤ 96 - x.c) && !decide (x.a = e ∧ x.f = b)))

/-- Are extents behind others sound? -/
def soundFrom (prev : List PX) (e b : Int) : List PX → Bool
  | [] => true
  | x :: r => okX e b x && (!(prev.any (meetsX x)) && soundFrom (prev ++ [x]) (x.a + x.c) (x.f + x.c) r)

def soundXs (l : List PX) : Bool := decide (l.length ≤ 3) && soundFrom [] 0 0 l

def noNode : PNode := ⟨0, 0, 0, 0, 0, 0, 0, 0, 0, 0, [], 0⟩
def PNode.ptrs (n : PNode) : List Int := [n.d0, n.d1, n.d2, n.d3, n.s, n.t]
def PNode.mapOk (n : PNode) : Bool :=
  if n.f = 1 then n.ptrs.all ptrOk && (decide (n.x = []) && decide (n.c = 0))
  else if n.f = 2 then n.ptrs.all (fun p => decide (p = 0)) && (soundXs n.x && ptrOk n.c)
  else false
def PNode.headOk (n : PNode) : Bool := decide ((n.k = 1 ∨ n.k = 2) ∧ 1 ≤ n.l ∧ n.l ≤ 1000 ∧ 0 ≤ n.z ∧ n.z ≤ 6144)
def PNode.sound (n : PNode) : Bool := if n.k = 0 then decide (n = noNode) else n.headOk && n.mapOk

def pad (n : Nat) (l : List Int) : List Int := l ++ List.replicate (n - l.length) 0
def exB (l : List PX) : List Int := l.flatMap fun x => leB x.a 1 ++ leB x.f 2 ++ leB x.c 1
def nodeH (n : PNode) : List Int := leB n.k 1 ++ leB n.f 1 ++ leB n.l 2 ++ leB n.z 2
def nodeP (n : PNode) : List Int := leB n.d0 2 ++ leB n.d1 2 ++ leB n.d2 2 ++ leB n.d3 2 ++ leB n.s 2 ++ leB n.t 2
/-- A node's 28 bytes. -/
def node28 (n : PNode) : List Int := pad 28 (if n.f = 2 then pad 18 (nodeH n ++ exB n.x) ++ leB n.c 2 else nodeH n ++ nodeP n)
def node32 (n : PNode) : List Int := node28 n ++ leB (sumS (node28 n)) 4
def nodeErr (n : PNode) : Int := if n.sound = true then 0 else 2
def nodeOut (n : PNode) : List Int := if n.sound = true then node32 n else []

def smallX (x : PX) : Prop := (0 ≤ x.a ∧ x.a ≤ 255) ∧ smallR x.f x.c
def u16 (n : Int) : Prop := 0 ≤ n ∧ n ≤ 65535
def PNode.small (n : PNode) : Prop := u16 n.k ∧ u16 n.f ∧ u16 n.l ∧ u16 n.z ∧ u16 n.d0 ∧ u16 n.d1 ∧ u16 n.d2 ∧ u16 n.d3 ∧ u16 n.s ∧ u16 n.t ∧ u16 n.c ∧ ∀ x ∈ n.x, smallX x

/-- A node as a value; its extents' list is the given value. -/
def PNode.val (n : PNode) (v : Value) : Value := .agg #[.int .i64 n.k, .int .i64 n.f, .int .i64 n.l, .int .i64 n.z, .int .i64 n.d0, .int .i64 n.d1, .int .i64 n.d2, .int .i64 n.d3, .int .i64 n.s, .int .i64 n.t, v, .int .i64 n.c]

/-- A store of a complex number, for the walk. -/
theorem st_cx : ∀ (a : Addr) (x y : Nat) (m : Mode) (w : World), (store a (.complex .f64 x y) m).run Try.prog w = stored Try.prog w a (.complex .f64 x y) m := fun a x y m w => run_store Try.prog w a _ m rfl

/-! ### Extents in memory -/

/-- A list of extents: two cells each. -/
def XIs (w : World) (ao : Option Addr) (len : Nat) (xs : List PX) : Prop :=
  xs.length = len ∧ len ≤ 3 ∧ (len = 0 ∨ ∃ b off, ao = some ⟨b, off, none⟩ ∧ ∀ i x, xs[i]? = some x → w.cell? ⟨b, off + i * 2, none⟩ = some (.int .i64 x.a) ∧ ∃ v, w.cell? ⟨b, off + i * 2 + 1, none⟩ = some v ∧ CX v x.f x.c)

theorem XIs.later {w w' : World} {ao : Option Addr} {len : Nat} {xs : List PX} (h : XIs w ao len xs) (hb : Below w.heap.size w w') : XIs w' ao len xs := by
  obtain ⟨h1, h2, h3⟩ := h
  refine ⟨h1, h2, ?_⟩
  rcases h3 with h3 | ⟨b, off, rfl, hc⟩
  · exact Or.inl h3
  · refine Or.inr ⟨b, off, rfl, fun i x hx => ?_⟩
    obtain ⟨c1, v, c2, c3⟩ := hc i x hx
    exact ⟨cell_later hb c1, v, cell_later hb c2, c3⟩

theorem XIs.nil (w : World) : XIs w none 0 [] := ⟨rfl, by decide, Or.inl rfl⟩

theorem XIs.at {w : World} {ao : Option Addr} {len : Nat} {xs : List PX} (h : XIs w ao len xs) {i : Nat} (hi : i < len) :
    ∃ b off x p q, ao = some ⟨b, off, none⟩ ∧ xs[i]? = some x ∧ x ∈ xs ∧ w.cell? ⟨b, off + i * 2, none⟩ = some (.int .i64 x.a) ∧ w.cell? ⟨b, off + i * 2 + 1, none⟩ = some (.complex .f64 p q) ∧ FI p x.f ∧ FI q x.c := by
  obtain ⟨h1, h2, h3⟩ := h
  obtain ⟨b, off, rfl, hc⟩ := h3.resolve_left (by omega)
  obtain ⟨x, hx⟩ : ∃ x, xs[i]? = some x := ⟨_, List.getElem?_eq_getElem (by omega)⟩
  obtain ⟨c1, v, c2, p, q, rfl, f1, f2⟩ := hc i x hx
  exact ⟨b, off, x, p, q, rfl, hx, List.mem_of_getElem? hx, c1, c2, f1, f2⟩

/-- The first extents. -/
theorem XIs.take {w : World} {b off len : Nat} {xs : List PX} (h : XIs w (some ⟨b, off, none⟩) len xs) {k : Nat} (hk : k ≤ len) : XIs w (some ⟨b, off, none⟩) k (xs.take k) := by
  obtain ⟨h1, h2, h3⟩ := h
  refine ⟨by rw [List.length_take]; omega, by omega, ?_⟩
  by_cases h0 : k = 0
  · exact Or.inl h0
  · obtain ⟨b', off', he, hc⟩ := h3.resolve_left (by omega)
    refine Or.inr ⟨b', off', he, fun i x hx => hc i x ?_⟩
    rw [List.getElem?_take] at hx
    split at hx
    · exact hx
    · cases hx

theorem any_take_x {p : PX → Bool} {l : List PX} {i : Nat} {x : PX} (h : l[i]? = some x) (h0 : (l.take i).any p = false) : (l.take (i + 1)).any p = p x := by
  rw [List.take_add_one, h, List.any_append, h0]
  simp

theorem any_of_take_x {p : PX → Bool} {l : List PX} {i : Nat} (h : (l.take i).any p = true) : l.any p = true := by
  rw [List.any_eq_true] at h ⊢
  obtain ⟨x, hx, hp⟩ := h
  exact ⟨x, List.mem_of_mem_take hx, hp⟩

theorem drop_at {l : List PX} {i : Nat} {x : PX} (h : l[i]? = some x) : l.drop i = x :: l.drop (i + 1) := by
  obtain ⟨hi, he⟩ := List.getElem?_eq_some_iff.1 h
  rw [List.drop_eq_getElem_cons hi, he]

theorem take_at {l : List PX} {i : Nat} {x : PX} (h : l[i]? = some x) : l.take (i + 1) = l.take i ++ [x] := by
  rw [List.take_add_one, h]
  rfl

/-- A step in a list of extents. -/
theorem soundFrom_at {l : List PX} {i : Nat} {x : PX} {e b : Int} (h : l[i]? = some x) : soundFrom (l.take i) e b (l.drop i) = (okX e b x && (!((l.take i).any (meetsX x)) && soundFrom (l.take (i + 1)) (x.a + x.c) (x.f + x.c) (l.drop (i + 1)))) := by
  rw [drop_at h, take_at h]
  rfl

end Go.Proofs.Ytojfhhmjoledjaa
