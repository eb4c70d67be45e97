/-
  Proved here: copying as much of a text as fits into 64 new bytes; a store into the block beside a game.
  The conditions stand at each theorem.
-/
import Derived.Test.YtbnepjojfaeggaaOpen16
import Derived.Test.YtbnepjojfaeggaaAwake16
import Derived.Test.YtbnepjojfaeggaaIn16
namespace Go.Proofs.Ytbnepjojfaeggaa
open Go.RowKit
set_option linter.unusedVariables false
set_option linter.unusedSimpArgs false

theorem own_arg {base g : Nat} {w0 wr : World} {L : List Int} (h : Own base w0 g L wr) (hl : L.length = 64) : Arg wr (some ⟨g, 0, none⟩) 64 64 L := by
  have := h.bts (by omega)
  rw [hl] at this
  exact ⟨this, (fun h => by cases h), Nat.le_refl _, by decide⟩
theorem own_lt64 {base g : Nat} {w0 wr : World} {L : List Int} (h : Own base w0 g L wr) (hl : L.length = 64) : g < wr.heap.size := World.block_lt_of_cell? _ _ (h.2.1 0 (by omega))
theorem below_size_of {base : Nat} {w0 w : World} (h : Below base w0 w) {p : Nat} (hp : w0.heap.size = p) : p ≤ w.heap.size := by rw [← hp]; exact h.size

/-- A text laid over 64 zeros, as much of it as fits. -/
def pad64 (zs : List Int) : List Int := lay zeros64 0 (zs.take 64)

theorem pad_length (zs : List Int) : (pad64 zs).length = 64 := by unfold pad64; rw [lay_length]; rfl

theorem setCells_type (g : Nat) (T : TypeId) : ∀ (vs : List Value) (o : Nat) (w : World), (∃ cs fr, w.heap[g]? = some (.cells cs T fr)) → ∃ cs fr, (w.setCells g o vs).heap[g]? = some (.cells cs T fr)
  | [], _, _, h => h
  | v :: r, o, w, h => by
    refine setCells_type g T r (o + 1) _ ?_
    obtain ⟨cs, fr, h⟩ := h
    show ∃ cs' fr', (w.setCell ⟨g, o, none⟩ v).heap[g]? = some (.cells cs' T fr')
    simp only [World.setCell, Array.getElem?_modify]
    rw [if_pos trivial, h]
    exact ⟨_, _, rfl⟩

theorem bts_cut {w : World} {ao : Option Addr} {m k : Nat} {zs : List Int} (h : Bts w ao m zs) (hk : k ≤ m) : Bts w ao k (zs.take k) := by
  obtain ⟨h1, h2, h3, h4⟩ := h
  refine ⟨by rw [List.length_take]; omega, by omega, fun z hz => h3 z (List.mem_of_mem_take hz), ?_⟩
  rcases h4 with h4 | ⟨b, off, rfl, hc⟩
  · exact Or.inl (by omega)
  · exact Or.inr ⟨b, off, rfl, fun j hj => by rw [take_getD _ _ _ hj]; exact hc j (by omega)⟩

/-- 'copy' of a text into 64 bytes of the call's own. -/
theorem own_copy_min {base g : Nat} {w0 w : World} (hO : Own base w0 g zeros64 w) (ao : Option Addr) (m c : Nat) (zs : List Int) (hB : Bts w ao m zs) (ty : TypeId) :
    ∃ v' w', (Builtin.copy_ #[46, 46] ty #[.slice (some ⟨g, 0, none⟩) 64 64, .slice ao m c]).run Try.prog w = .ok v' w' ∧ Own base w0 g (pad64 zs) w' := by
  have hl0 : zs.length = m := hB.1
  cases ao with
  | none =>
    have hz : zs = [] ∧ m = 0 := by
      rcases hB.2.2.2 with h0 | ⟨b, o, he, _⟩
      · exact ⟨List.length_eq_zero_iff.1 (by rw [hB.1, h0]), h0⟩
      · cases he
    obtain ⟨rfl, rfl⟩ := hz
    exact ⟨_, _, run_copy_none (P := Try.prog) w 46 46 ty 5 _ none 64 64 0 c Try.underlying46 size5 (by simp), hO⟩
  | some ad =>
    have hBk := bts_cut (k := min m 64) hB (Nat.min_le_left _ _)
    have htk : zs.take (min m 64) = zs.take 64 := by
      by_cases h : m ≤ 64
      · rw [Nat.min_eq_left h, List.take_of_length_le (by omega), List.take_of_length_le (by omega)]
      · rw [Nat.min_eq_right (by omega)]
    rw [htk] at hBk
    have hl : ((zs.take 64).map (Value.int .u8)).length = min m 64 := by rw [List.length_map, hBk.1]
    have hr := run_copy_cells (P := Try.prog) w 46 46 ty 5 g 0 64 64 ad m c ((zs.take 64).map (Value.int .u8)) Try.underlying46 size5 hl (bts_news hBk rfl)
      (fun j hj => by rw [Nat.zero_add]; rw [hO.2.1 j (by show j < 64; omega)]; rfl) (fun j _ => hO.2.2.1 _) (one_cells _)
    exact ⟨_, _, hr, hO.fill (zs.take 64) zeros64 0 w (by show 0 + _ ≤ 64; rw [List.length_take]; omega) hBk.2.2.1⟩

/-- 64 new bytes. -/
theorem made64 (w : World) : ∃ W, (Instr.makeSlice 46 (.int .i64 64) (.int .i64 64)).run Try.prog w = .ok (.slice (some ⟨w.heap.size, 0, none⟩) 64 64) W ∧ Own w.heap.size w w.heap.size zeros64 W := by
  have hmk := run_make_bytes w 64 (by decide)
  rw [show ((64 : Nat) : Int) = 64 from rfl] at hmk
  exact ⟨_, hmk, made_own w 64⟩

variable {q : Nat} {O : Option Obj} {M : JM} {JI : World → Addr → Addr → (Nat → Prop) → M.S → Prop} {w w' : World} {lo g n nc mc : Nat} {a j : Addr} {F G F' G' : Nat → Prop} {na ma : Option Addr} {dead : Bool} {d d' : DM} {s s' : M.S} {xs ys : List ByteArray}

/-- A store into the block beside. -/
theorem GI.store (K : JournalOk M JI) (h : GI q O M JI w lo g a j F G na ma n nc mc dead d s xs ys) (hN : ∀ b o t, na = some ⟨b, o, t⟩ → b ≠ q) (hM : ∀ b o t, ma = some ⟨b, o, t⟩ → b ≠ q) (i : Nat) (v : Value) :
    GI q ((w.setCell ⟨q, i, none⟩ v).heap[q]?) M JI (w.setCell ⟨q, i, none⟩ v) lo g a j F G na ma n nc mc dead d s xs ys where
  at_ := h.at_.kept (set_heap w q i v (fun e => h.qn.1 e.symm))
  di := diskOk.kept h.di (fun k hk => set_heap w q i _ (fun e => h.qn.2.2.1 (by rw [← e]; exact hk))) (Nat.le_of_eq (set_size w q i _).symm)
  ji := K.kept h.ji (fun k hk => set_heap w q i _ (fun e => h.qn.2.2.2 (by rw [← e]; exact hk))) (Nat.le_of_eq (set_size w q i _).symm)
  apart := h.apart
  outF := h.outF
  outG := h.outG
  lo_g := h.lo_g
  now := h.now.kept (fun b o t e => set_heap w q i _ (hN b o t e))
  may := h.may.kept (fun b o t e => set_heap w q i _ (hM b o t e))
  offN := h.offN
  offM := h.offM
  qn := ⟨h.qn.1, by rw [set_size]; exact h.qn.2.1, h.qn.2.2⟩
  qo := rfl

theorem began_gi {M : JM} {JI : World → Addr → Addr → (Nat → Prop) → M.S → Prop} {w : World} {lo g n nc : Nat} {a j : Addr} {F G : Nat → Prop} {na : Option Addr} {d : DM} {s : M.S} (hGA : GameAt w g a j (.slice na n nc) (.slice na n nc) false) (hDI : DI w a F d) (hJI : JI w j a G s) (hdj : ∀ k, G k → ¬ F k)
    (hF : ∀ k, F k → lo ≤ k ∧ k < g) (hG : ∀ k, G k → lo ≤ k ∧ k < g) (hg : lo ≤ g) {zs : List ByteArray} (hown : w.ownsRow (g + 1) 9 1 (.slice na n nc) n (strs zs)) (hn : 0 < n) (hn4 : n ≤ 480) :
    ∃ q O, GI q O M JI w lo g a j F G na na n nc nc false d s zs zs := by
  obtain ⟨q, c, hv, hc, hO⟩ := ownV_form (w0 := w) hown hn (Below.refl _ _)
  obtain ⟨rfl, rfl⟩ : na = some ⟨q, 0, none⟩ ∧ nc = c := by simpa using hv
  have hq := hO.2.2.1
  have hs : SIs w (some ⟨q, 0, none⟩) n zs := SIs.of_own hO (by have := hown.1; rw [strs_length] at this; omega) (by omega)
  have hoff : Off F G g (some ⟨q, 0, none⟩) := fun b o t e => by
    cases e
    exact ⟨fun h => by have := (hF _ h).2; omega, fun h => by have := (hG _ h).2; omega, by omega⟩
  exact ⟨q, _, hGA, hDI, hJI, fun k hk hk2 => hdj k hk2 hk, fun k hk => ⟨(hF k hk).1, by have := (hF k hk).2; omega⟩, fun k hk => ⟨(hG k hk).1, by have := (hG k hk).2; omega⟩, hg, hs, hs, hoff, hoff, ⟨by omega, hs.lt hn rfl, (hoff q 0 none rfl).1, (hoff q 0 none rfl).2.1⟩, rfl⟩

/-- Strings that were made: a block of them. -/
def LastIs (w : World) (q : Nat) (L : List ByteArray) : Prop := (∀ (j : Nat) (x : ByteArray), L[j]? = some x → w.cell? ⟨q, j, none⟩ = some (.string x)) ∧ ∀ j, w.frozen? ⟨q, j, none⟩ = false
theorem LastIs.kept {w w' : World} {q : Nat} {L : List ByteArray} (h : LastIs w q L) (hk : w'.heap[q]? = w.heap[q]?) : LastIs w' q L :=
  ⟨fun j x hj => by rw [cell_of_heap (p := ⟨q, j, none⟩) hk]; exact h.1 j x hj, fun j => by rw [World.frozen?_of_block (w := w) (a := ⟨q, j, none⟩) hk]; exact h.2 j⟩
theorem LastIs.store {w : World} {q : Nat} {L : List ByteArray} (h : LastIs w q L) {i : Nat} (hi : i < L.length) (x : ByteArray) : LastIs (w.setCell ⟨q, i, none⟩ (.string x)) q (L.set i x) := by
  refine ⟨fun j y hj => ?_, fun j => by simpa using h.2 j⟩
  rw [List.getElem?_set] at hj
  by_cases e : i = j
  · subst e
    rw [if_pos rfl, if_pos hi] at hj
    obtain rfl := Option.some.inj hj
    exact World.cell?_setCell_same w _ _ (h.1 i _ (List.getElem?_eq_getElem hi))
  · rw [if_neg e] at hj
    rw [World.cell?_setCell_other (h := fun e2 => e (by injection e2))]
    exact h.1 j y hj

end Go.Proofs.Ytbnepjojfaeggaa
