/-
  Proved here: what stores into the game of layer 16 keep, and what a list of numbers below a line keeps.
-/
import Derived.Test.YtbnepjojfaeggaaGame16
namespace Go.Proofs.Ytbnepjojfaeggaa
open Go.RowKit
set_option linter.unusedVariables false
set_option linter.unusedSimpArgs false

variable {q : Nat} {O : Option Obj} {M : JM} {JI : World → Addr → Addr → (Nat → Prop) → M.S → Prop} {w w' : World} {lo g n nc mc : Nat} {a j j' : Addr} {F G F' G' : Nat → Prop} {na ma : Option Addr} {dead : Bool} {d d' : DM} {s s' : M.S} {xs ys : List ByteArray}

theorem GameAt.setJ {w : World} {g : Nat} {d j j' : Addr} {now maybe : Value} {dead : Bool} (h : GameAt w g d j now maybe dead) : GameAt (w.setCell ⟨g, 1, none⟩ (.pointer (some j'))) g d j' now maybe dead := by
  obtain ⟨h1, h2, h3, h4, h5, h6⟩ := h
  refine ⟨?_, World.cell?_setCell_same w _ _ h2, ?_, ?_, ?_, fun k => by simpa using h6 k⟩
  all_goals rw [World.cell?_setCell_other (h := by simp)]
  · exact h1
  · exact h3
  · exact h4
  · exact h5
theorem GameAt.setDead {w : World} {g : Nat} {d j : Addr} {now maybe : Value} {dead : Bool} (b : Bool) (h : GameAt w g d j now maybe dead) : GameAt (w.setCell ⟨g, 4, none⟩ (.bool b)) g d j now maybe b := by
  obtain ⟨h1, h2, h3, h4, h5, h6⟩ := h
  refine ⟨?_, ?_, ?_, ?_, World.cell?_setCell_same w _ _ h5, fun k => by simpa using h6 k⟩
  all_goals rw [World.cell?_setCell_other (h := by simp)]
  · exact h1
  · exact h2
  · exact h3
  · exact h4

theorem set_heap (w : World) (g i : Nat) (v : Value) {k : Nat} (h : k ≠ g) : (w.setCell ⟨g, i, none⟩ v).heap[k]? = w.heap[k]? := Below.heap_setCell w _ v k h
theorem set_size (w : World) (g i : Nat) (v : Value) : (w.setCell ⟨g, i, none⟩ v).heap.size = w.heap.size := by simp

/-- The game's journal is another one. -/
theorem GI.setJ (K : JournalOk M JI) (h : GI q O M JI w lo g a j F G na ma n nc mc dead d s xs ys) (hJ : JI w j' a G' s') (hG : ∀ k, G' k → lo ≤ k ∧ k ≠ g) (hQ : ¬ G' q) (ha : ∀ k, F k → ¬ G' k) (hN : ∀ b o t, na = some ⟨b, o, t⟩ → ¬ G' b) (hM : ∀ b o t, ma = some ⟨b, o, t⟩ → ¬ G' b) :
    GI q O M JI (w.setCell ⟨g, 1, none⟩ (.pointer (some j'))) lo g a j' F G' na ma n nc mc dead d s' xs ys where
  at_ := h.at_.setJ
  di := diskOk.kept h.di (fun k hk => set_heap w g 1 _ (h.outF k hk).2) (Nat.le_of_eq (set_size w g 1 _).symm)
  ji := K.kept hJ (fun k hk => set_heap w g 1 _ (hG k hk).2) (Nat.le_of_eq (set_size w g 1 _).symm)
  apart := ha
  outF := h.outF
  outG := hG
  lo_g := h.lo_g
  now := h.now.kept (fun b o t e => set_heap w g 1 _ (h.offN b o t e).2.2)
  may := h.may.kept (fun b o t e => set_heap w g 1 _ (h.offM b o t e).2.2)
  offN := fun b o t e => ⟨(h.offN b o t e).1, hN b o t e, (h.offN b o t e).2.2⟩
  offM := fun b o t e => ⟨(h.offM b o t e).1, hM b o t e, (h.offM b o t e).2.2⟩
  qn := ⟨h.qn.1, by rw [set_size]; exact h.qn.2.1, h.qn.2.2.1, hQ⟩
  qo := by rw [set_heap w g 1 _ h.qn.1]; exact h.qo

theorem GI.setDead (K : JournalOk M JI) (b : Bool) (h : GI q O M JI w lo g a j F G na ma n nc mc dead d s xs ys) : GI q O M JI (w.setCell ⟨g, 4, none⟩ (.bool b)) lo g a j F G na ma n nc mc b d s xs ys where
  at_ := h.at_.setDead b
  di := diskOk.kept h.di (fun k hk => set_heap w g 4 _ (h.outF k hk).2) (Nat.le_of_eq (set_size w g 4 _).symm)
  ji := K.kept h.ji (fun k hk => set_heap w g 4 _ (h.outG k hk).2) (Nat.le_of_eq (set_size w g 4 _).symm)
  apart := h.apart
  outF := h.outF
  outG := h.outG
  lo_g := h.lo_g
  now := h.now.kept (fun b o t e => set_heap w g 4 _ (h.offN b o t e).2.2)
  may := h.may.kept (fun b o t e => set_heap w g 4 _ (h.offM b o t e).2.2)
  offN := h.offN
  offM := h.offM
  qn := ⟨h.qn.1, by rw [set_size]; exact h.qn.2.1, h.qn.2.2.1, h.qn.2.2.2⟩
  qo := by rw [set_heap w g 4 _ h.qn.1]; exact h.qo

/-- The texts that there should be are others. -/
theorem GI.setNow (K : JournalOk M JI) {va : Option Addr} {vc : Nat} {zs : List ByteArray} (h : GI q O M JI w lo g a j F G na ma n nc mc dead d s xs ys) (hv : SIs w va n zs) (ho : Off F G g va) : GI q O M JI (w.setCell ⟨g, 2, none⟩ (.slice va n vc)) lo g a j F G va ma n vc mc dead d s zs ys where
  at_ := h.at_.setNow
  di := diskOk.kept h.di (fun k hk => set_heap w g 2 _ (h.outF k hk).2) (Nat.le_of_eq (set_size w g 2 _).symm)
  ji := K.kept h.ji (fun k hk => set_heap w g 2 _ (h.outG k hk).2) (Nat.le_of_eq (set_size w g 2 _).symm)
  apart := h.apart
  outF := h.outF
  outG := h.outG
  lo_g := h.lo_g
  now := hv.kept (fun b o t e => set_heap w g 2 _ (ho b o t e).2.2)
  may := h.may.kept (fun b o t e => set_heap w g 2 _ (h.offM b o t e).2.2)
  offN := ho
  offM := h.offM
  qn := ⟨h.qn.1, by rw [set_size]; exact h.qn.2.1, h.qn.2.2.1, h.qn.2.2.2⟩
  qo := by rw [set_heap w g 2 _ h.qn.1]; exact h.qo

theorem GI.setMaybe (K : JournalOk M JI) {va : Option Addr} {vc : Nat} {zs : List ByteArray} (h : GI q O M JI w lo g a j F G na ma n nc mc dead d s xs ys) (hv : SIs w va n zs) (ho : Off F G g va) : GI q O M JI (w.setCell ⟨g, 3, none⟩ (.slice va n vc)) lo g a j F G na va n nc vc dead d s xs zs where
  at_ := h.at_.setMaybe
  di := diskOk.kept h.di (fun k hk => set_heap w g 3 _ (h.outF k hk).2) (Nat.le_of_eq (set_size w g 3 _).symm)
  ji := K.kept h.ji (fun k hk => set_heap w g 3 _ (h.outG k hk).2) (Nat.le_of_eq (set_size w g 3 _).symm)
  apart := h.apart
  outF := h.outF
  outG := h.outG
  lo_g := h.lo_g
  now := h.now.kept (fun b o t e => set_heap w g 3 _ (h.offN b o t e).2.2)
  may := hv.kept (fun b o t e => set_heap w g 3 _ (ho b o t e).2.2)
  offN := h.offN
  offM := ho
  qn := ⟨h.qn.1, by rw [set_size]; exact h.qn.2.1, h.qn.2.2.1, h.qn.2.2.2⟩
  qo := by rw [set_heap w g 3 _ h.qn.1]; exact h.qo

theorem NumsAre.under {w w' : World} {lo : Nat} {ao : Option Addr} {m : Nat} {ks : List Int} (h : NumsAre w (fun k => k < lo) ao m ks) (hb : Below lo w w') : NumsAre w' (fun k => k < lo) ao m ks := by
  refine ⟨h.1, h.2.imp_right ?_⟩
  rintro ⟨b, off, rfl, hg, hc⟩
  exact ⟨b, off, rfl, hg, fun i x hx => ⟨by rw [cell_of_heap (p := ⟨b, off + i, none⟩) (hb.block b hg)]; exact (hc i x hx).1, (hc i x hx).2⟩⟩

end Go.Proofs.Ytbnepjojfaeggaa
