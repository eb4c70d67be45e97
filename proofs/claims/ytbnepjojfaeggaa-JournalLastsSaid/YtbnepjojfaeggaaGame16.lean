/-
  Said here: a game of layer 16 in memory (GI), and that calls keep it.
-/
import Derived.Test.YtbnepjojfaeggaaJrnGood
namespace Go.Proofs.Ytbnepjojfaeggaa
open Go.RowKit
set_option linter.unusedVariables false
set_option linter.unusedSimpArgs false

/-- An address lies outside a disk, a journal and the game's own cells. -/
def Off (F G : Nat → Prop) (g : Nat) (ao : Option Addr) : Prop := ∀ b o s, ao = some ⟨b, o, s⟩ → ¬ F b ∧ ¬ G b ∧ b ≠ g

/-- A game: its variable, its disk, its journal, the texts that there should be and that there may be; and a block q beside it, which holds O. -/
structure GI (q : Nat) (O : Option Obj) (M : JM) (JI : World → Addr → Addr → (Nat → Prop) → M.S → Prop) (w : World) (lo g : Nat) (a j : Addr) (F G : Nat → Prop) (na ma : Option Addr) (n nc mc : Nat) (dead : Bool) (d : DM) (s : M.S) (xs ys : List ByteArray) : Prop where
  at_ : GameAt w g a j (.slice na n nc) (.slice ma n mc) dead
  di : DI w a F d
  ji : JI w j a G s
  apart : ∀ k, F k → ¬ G k
  outF : ∀ k, F k → lo ≤ k ∧ k ≠ g
  outG : ∀ k, G k → lo ≤ k ∧ k ≠ g
  lo_g : lo ≤ g
  now : SIs w na n xs
  may : SIs w ma n ys
  offN : Off F G g na
  offM : Off F G g ma
  qn : q ≠ g ∧ q < w.heap.size ∧ ¬ F q ∧ ¬ G q
  qo : w.heap[q]? = O

theorem SIs.kept {w w' : World} {ao : Option Addr} {len : Nat} {ns : List ByteArray} (h : SIs w ao len ns) (hk : ∀ b o s, ao = some ⟨b, o, s⟩ → w'.heap[b]? = w.heap[b]?) : SIs w' ao len ns := by
  obtain ⟨h1, h2, h3⟩ := h
  refine ⟨h1, h2, h3.imp_right ?_⟩
  rintro ⟨b, off, rfl, hc⟩
  exact ⟨b, off, rfl, fun i v hv => by rw [cell_of_heap (p := ⟨b, off + i, none⟩) (hk b off none rfl)]; exact hc i v hv⟩

variable {q : Nat} {O : Option Obj} {M : JM} {JI : World → Addr → Addr → (Nat → Prop) → M.S → Prop} {w w' : World} {lo g n nc mc : Nat} {a j : Addr} {F G F' G' : Nat → Prop} {na ma : Option Addr} {dead : Bool} {d d' : DM} {s s' : M.S} {xs ys : List ByteArray}

theorem GI.later (K : JournalOk M JI) (h : GI q O M JI w lo g a j F G na ma n nc mc dead d s xs ys) (hb : Below w.heap.size w w') : GI q O M JI w' lo g a j F G na ma n nc mc dead d s xs ys where
  at_ := h.at_.later hb
  di := diskOk.later h.di hb
  ji := K.kept h.ji (fun k hk => hb.block k (K.lt h.ji k hk)) hb.size
  apart := h.apart
  outF := h.outF
  outG := h.outG
  lo_g := h.lo_g
  now := h.now.later hb
  may := h.may.later hb
  offN := h.offN
  offM := h.offM
  qn := ⟨h.qn.1, Nat.lt_of_lt_of_le h.qn.2.1 hb.size, h.qn.2.2⟩
  qo := by rw [hb.block q h.qn.2.1]; exact h.qo

/-- The blocks of a list of texts lie in the heap, or it has none. -/
theorem SIs.lt {w : World} {ao : Option Addr} {len : Nat} {ns : List ByteArray} (h : SIs w ao len ns) (hl : 0 < len) {b o : Nat} {s : Option Nat} (e : ao = some ⟨b, o, s⟩) : b < w.heap.size := by
  obtain ⟨b', o', x, e', _, hc⟩ := h.at (i := 0) hl
  rw [e'] at e
  cases e
  exact World.block_lt_of_cell? _ _ hc

theorem grew_kept {H H' : Nat → Prop} {w w' : World} (h : Grew H H' w w') {k : Nat} (hk : k < w.heap.size) (hn : ¬ H k) : w'.heap[k]? = w.heap[k]? := h.2.2.2.2.1 k hk hn

/-- A call that changes the disk alone: the journal's own memory stays. -/
theorem GI.disk (K : JournalOk M JI) (hn : 0 < n) (h : GI q O M JI w lo g a j F G na ma n nc mc dead d s xs ys) (hlo : lo ≤ w.heap.size) (hd : DI w' a F' d') (hg : Grew F F' w w') : GI q O M JI w' lo g a j F' G na ma n nc mc dead d' s xs ys := by
  have hgl := h.at_.lt
  have inF : ∀ k, F' k → k < w.heap.size → F k := fun k hk hl => (hg.2.2.2.2.2 k hk).resolve_right (by omega)
  refine ⟨h.at_.kept (grew_kept hg hgl (fun hf => (h.outF g hf).2 rfl)), hd, K.kept h.ji (fun k hk => grew_kept hg (K.lt h.ji k hk) (fun hf => h.apart k hf hk)) hg.2.2.2.1, fun k hk hG => h.apart k (inF k hk (K.lt h.ji k hG)) hG, fun k hk => ?_, h.outG, h.lo_g, ?_, ?_, ?_, ?_, ⟨h.qn.1, Nat.lt_of_lt_of_le h.qn.2.1 hg.2.2.2.1, fun hf => h.qn.2.2.1 (inF q hf h.qn.2.1), h.qn.2.2.2⟩, by rw [grew_kept hg h.qn.2.1 h.qn.2.2.1]; exact h.qo⟩
  · rcases hg.2.2.2.2.2 k hk with h1 | h1
    · exact h.outF k h1
    · exact ⟨by omega, by omega⟩
  · exact h.now.kept (fun b o s e => grew_kept hg (h.now.lt hn e) (h.offN b o s e).1)
  · exact h.may.kept (fun b o s e => grew_kept hg (h.may.lt hn e) (h.offM b o s e).1)
  · exact fun b o s e => ⟨fun hf => (h.offN b o s e).1 (inF b hf (h.now.lt hn e)), (h.offN b o s e).2⟩
  · exact fun b o s e => ⟨fun hf => (h.offM b o s e).1 (inF b hf (h.may.lt hn e)), (h.offM b o s e).2⟩

/-- A call that changes the disk and the journal. -/
theorem GI.both (K : JournalOk M JI) (hn : 0 < n) (h : GI q O M JI w lo g a j F G na ma n nc mc dead d s xs ys) (hlo : lo ≤ w.heap.size) (hd : DI w' a F' d') (hj : JI w' j a G' s') (ha : ∀ k, F' k → ¬ G' k) (hg : Grew (fun k => F k ∨ G k) (fun k => F' k ∨ G' k) w w') : GI q O M JI w' lo g a j F' G' na ma n nc mc dead d' s' xs ys := by
  have hgl := h.at_.lt
  have inF : ∀ k, F' k ∨ G' k → k < w.heap.size → F k ∨ G k := fun k hk hl => (hg.2.2.2.2.2 k hk).resolve_right (by omega)
  have out : ∀ k, F' k ∨ G' k → lo ≤ k ∧ k ≠ g := fun k hk => by
    rcases hg.2.2.2.2.2 k hk with (h1 | h1) | h1
    · exact h.outF k h1
    · exact h.outG k h1
    · exact ⟨by omega, by omega⟩
  refine ⟨h.at_.kept (grew_kept hg hgl (fun hf => hf.elim (fun hf => (h.outF g hf).2 rfl) (fun hf => (h.outG g hf).2 rfl))), hd, hj, ha, fun k hk => out k (Or.inl hk), fun k hk => out k (Or.inr hk), h.lo_g, ?_, ?_, ?_, ?_, ⟨h.qn.1, Nat.lt_of_lt_of_le h.qn.2.1 hg.2.2.2.1, fun hf => (inF q (Or.inl hf) h.qn.2.1).elim h.qn.2.2.1 h.qn.2.2.2, fun hf => (inF q (Or.inr hf) h.qn.2.1).elim h.qn.2.2.1 h.qn.2.2.2⟩, by rw [grew_kept hg h.qn.2.1 (fun hf => hf.elim h.qn.2.2.1 h.qn.2.2.2)]; exact h.qo⟩
  · exact h.now.kept (fun b o s e => grew_kept hg (h.now.lt hn e) (fun hf => hf.elim (h.offN b o s e).1 (h.offN b o s e).2.1))
  · exact h.may.kept (fun b o s e => grew_kept hg (h.may.lt hn e) (fun hf => hf.elim (h.offM b o s e).1 (h.offM b o s e).2.1))
  · refine fun b o s e => ⟨fun hf => ?_, fun hf => ?_, (h.offN b o s e).2.2⟩
    · exact (inF b (Or.inl hf) (h.now.lt hn e)).elim (h.offN b o s e).1 (h.offN b o s e).2.1
    · exact (inF b (Or.inr hf) (h.now.lt hn e)).elim (h.offN b o s e).1 (h.offN b o s e).2.1
  · refine fun b o s e => ⟨fun hf => ?_, fun hf => ?_, (h.offM b o s e).2.2⟩
    · exact (inF b (Or.inl hf) (h.may.lt hn e)).elim (h.offM b o s e).1 (h.offM b o s e).2.1
    · exact (inF b (Or.inr hf) (h.may.lt hn e)).elim (h.offM b o s e).1 (h.offM b o s e).2.1

/-- What the block beside holds. -/
theorem GI.cell (h : GI q (w'.heap[q]?) M JI w lo g a j F G na ma n nc mc dead d s xs ys) (i : Nat) : w.cell? ⟨q, i, none⟩ = w'.cell? ⟨q, i, none⟩ := cell_of_heap h.qo
/-- Another block beside it. -/
theorem GI.beside (h : GI q O M JI w lo g a j F G na ma n nc mc dead d s xs ys) {p : Nat} (hp : p ≠ g ∧ p < w.heap.size ∧ ¬ F p ∧ ¬ G p) : GI p (w.heap[p]?) M JI w lo g a j F G na ma n nc mc dead d s xs ys :=
  ⟨h.at_, h.di, h.ji, h.apart, h.outF, h.outG, h.lo_g, h.now, h.may, h.offN, h.offM, hp, rfl⟩

/-- Everything below lo stays. -/
theorem GI.below_disk (h : GI q O M JI w lo g a j F G na ma n nc mc dead d s xs ys) {w0 : World} (hb : Below lo w0 w) (hlo : lo ≤ w.heap.size) (hg : Grew F F' w w') : Below lo w0 w' := hg.below hb hlo (fun k hk => (h.outF k hk).1)
theorem GI.below_both (h : GI q O M JI w lo g a j F G na ma n nc mc dead d s xs ys) {w0 : World} (hb : Below lo w0 w) (hlo : lo ≤ w.heap.size) (hg : Grew (fun k => F k ∨ G k) (fun k => F' k ∨ G' k) w w') : Below lo w0 w' := hg.below hb hlo (fun k hk => hk.elim (fun h1 => (h.outF k h1).1) (fun h1 => (h.outG k h1).1))

end Go.Proofs.Ytbnepjojfaeggaa
