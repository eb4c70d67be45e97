/-
  Proved here: what the landed node's get answers: the numbers of the places, read into a half.
  The conditions stand at each theorem.
-/
import Derived.Test.YtojfhhmjoledjaaNWrite
import Derived.Test.YtojfhhmjoledjaaFieldGet
namespace Go.Proofs.Ytojfhhmjoledjaa
open Go.RowKit
set_option linter.unusedVariables false
set_option linter.unusedSimpArgs false

/-- What the cells hold when the numbers of the places are read. -/
def gotV (zs : List Int) (ps : List Pl) (V : Nat → Int) : Nat → Int := ps.foldl (fun V p o => if o = p.2.2 then getOut zs p.1 p.2.1 else V o) V

theorem gotV_snoc (zs : List Int) (ps : List Pl) (p : Pl) (V : Nat → Int) : gotV zs (ps ++ [p]) V = fun o => if o = p.2.2 then getOut zs p.1 p.2.1 else gotV zs ps V o := by
  unfold gotV; rw [List.foldl_append]; rfl

/-- A half that is read into. -/
def Rd9 (w0 : World) (g : Nat) (V : Nat → Int) (wr : World) : Prop :=
  Below w0.heap.size w0 wr ∧ (∀ o, o < 21 → o ≠ 10 → wr.cell? ⟨g, o, none⟩ = some (.int .i64 (V o))) ∧ wr.cell? ⟨g, 10, none⟩ = some (.slice none 0 0) ∧ ∀ j, wr.frozen? ⟨g, j, none⟩ = false

theorem Rd9.lt {w0 wr : World} {g : Nat} {V : Nat → Int} (h : Rd9 w0 g V wr) : g < wr.heap.size := World.block_lt_of_cell? _ _ h.2.2.1

theorem Rd9.later {w0 wr wx : World} {g : Nat} {V : Nat → Int} (h : Rd9 w0 g V wr) (hb : Below wr.heap.size wr wx) : Rd9 w0 g V wx :=
  ⟨h.1.trans (hb.mono h.1.size), fun o h1 h2 => cell_later hb (h.2.1 o h1 h2), cell_later hb h.2.2.1, fun j => by rw [hb.frozen (p := ⟨g, j, none⟩) h.lt]; exact h.2.2.2 j⟩

theorem Rd9.alloc {w0 wr : World} {g : Nat} {V : Nat → Int} (h : Rd9 w0 g V wr) (o : Obj) : Rd9 w0 g V (wr.alloc o) := h.later ((Below.refl _ _).alloc (Nat.le_refl _) _)

theorem Rd9.step {w0 wr : World} {g k : Nat} {V : Nat → Int} (h : Rd9 w0 g V wr) (hg : w0.heap.size ≤ g) (hk : k < 21) (hk10 : k ≠ 10) (x : Int) : Rd9 w0 g (fun o => if o = k then x else V o) (wr.setCell ⟨g, k, none⟩ (.int .i64 x)) := by
  refine ⟨h.1.setCell (p := ⟨g, k, none⟩) hg _, fun o ho hne => ?_, ?_, fun j => by simpa using h.2.2.2 j⟩
  · show (wr.setCell ⟨g, k, none⟩ (.int .i64 x)).cell? ⟨g, o, none⟩ = some (.int .i64 (if o = k then x else V o))
    by_cases e : o = k
    · subst e
      rw [if_pos rfl]
      exact World.cell?_setCell_same wr _ _ (h.2.1 o ho hne)
    · rw [if_neg e, World.cell?_setCell_other (h := by intro e'; exact e (by simpa using (congrArg Addr.off e').symm))]
      exact h.2.1 o ho hne
  · rw [World.cell?_setCell_other (h := by intro e'; exact hk10 (by simpa using congrArg Addr.off e'))]
    exact h.2.2.1

theorem Rd9.drew {w0 wr : World} {g : Nat} {V : Nat → Int} (h : Rd9 w0 g V wr) : Rd9 w0 g V wr.drew := ⟨h.1.drew, fun o h1 h2 => h.2.1 o h1 h2, h.2.2.1, fun j => h.2.2.2 j⟩

theorem PlcAt.set {wr : World} {gp g k : Nat} {ps : List Pl} {v : Value} (h : PlcAt wr gp g ps) (hne : gp ≠ g) : PlcAt (wr.setCell ⟨g, k, none⟩ v) gp g ps := fun i p hp => by
  obtain ⟨h1, h2, h3⟩ := h i p hp
  refine ⟨?_, ?_, ?_⟩
  all_goals rw [World.cell?_setCell_other (h := by intro e; exact hne (by simpa using (congrArg Addr.block e).symm))]
  · exact h1
  · exact h2
  · exact h3

theorem PlcAt.drew {wr : World} {gp g : Nat} {ps : List Pl} (h : PlcAt wr gp g ps) : PlcAt wr.drew gp g ps := h

/-- A list of places as get is handed it. -/
def PlArg (w : World) (g : Nat) (v : Value) (ps : List Pl) : Prop := ∃ gp cp, gp ≠ g ∧ (ps = [] ∧ v = .slice none 0 0 ∨ v = .slice (some ⟨gp, 0, none⟩) ps.length cp ∧ PlcAt w gp g ps)

set_option maxRecDepth 100000 in
set_option maxHeartbeats 6400000 in
theorem getPl_any (ao : Option Addr) (cap : Nat) (zs : List Int) (gp cp g n : Nat) (ps : List Pl) (V : Nat → Int) (w0 w : World) (hA : Arg w0 ao 64 cap zs) (hn : ps.length = n) (hn1000 : n ≤ 1000) (hps : ∀ p ∈ ps, okPl p) (hg : w0.heap.size ≤ g) (hne : gp ≠ g) (hp : PlcAt w gp g ps) (h : Rd9 w0 g V w) :
    Calls Try.prog 16 #[.slice ao 64 cap, .slice (some ⟨gp, 0, none⟩) n cp] w fun e w' => e = .returned (.tuple #[]) ∧ Rd9 w0 g (gotV zs ps V) w' := by
  have HA := Lib.hid hA
  have HPS := Lib.hid hps
  have H0 := Lib.hid h
  have HP0 := Lib.hid hp
  clear hA hps h hp
  go_enter Try.func16, Try.ntmps16
  go_wp2_with fail
  go_loopw [8] (fun iv wr => ∃ i : Nat, iv = .int .i64 (i : Int) ∧ i ≤ n ∧ Hid (Rd9 w0 g (gotV zs (ps.take i) V) wr) ∧ Hid (PlcAt wr gp g ps)) (fun iv _ => n - (intOf iv).toNat)
  case atStart => exact ⟨0, rfl, Nat.zero_le _, H0, HP0⟩
  case round =>
    obtain ⟨i, rfl, hi, HR, HP⟩ := hrel
    by_cases hlt : i < n
    · obtain ⟨p, hpi⟩ : ∃ p, ps[i]? = some p := ⟨_, List.getElem?_eq_getElem (by omega)⟩
      have hok := HPS.out p (List.mem_of_getElem? hpi)
      obtain ⟨c1, c2, c3⟩ := HP.out i p hpi
      have HS : Hid (gotV zs (ps.take (i + 1)) V = fun o => if o = p.2.2 then getOut zs p.1 p.2.1 else gotV zs (ps.take i) V o) := Lib.hid (by
        rw [List.take_add_one, hpi]
        exact gotV_snoc _ _ _ _)
      obtain ⟨a, b, k⟩ := p
      obtain ⟨h0, h1, h2, h3, h4, h5⟩ := hok
      simp only at *
      have c4 := HR.out.2.1 k h4 h5
      have hgr := HR.out.lt
      have HO : Hid (∀ o : Obj, Rd9 w0 g (gotV zs (ps.take (i + 1)) V) ((wr.alloc o).setCell ⟨g, k, none⟩ (.int .i64 (getOut zs a b))).drew) := Lib.hid (fun o => by
        rw [HS.out]
        exact ((HR.out.alloc o).step hg h4 h5 _).drew)
      have HPO : Hid (∀ (o : Obj) (v : Value), PlcAt ((wr.alloc o).setCell ⟨g, k, none⟩ v).drew gp g ps) := Lib.hid (fun o v => ((HP.out.later ((Below.refl _ _).alloc (Nat.le_refl _) _)).set hne).drew)
      have HG : Hid (∀ W, Below w0.heap.size w0 W → Calls Try.prog 28 #[.slice ao 64 cap, .int .i64 a, .int .i64 b] W (fun e w' => e = .returned (.tuple #[.int .i64 (getOut zs a b), .int .i64 (fErr 64 a b)]) ∧ w' = W)) :=
        Lib.hid (fun W hW => (fGet_any ao 64 cap zs a b W (HA.out.later hW) (by omega) (by omega)).mono (fun e w' h => ⟨h.1, h.2.symm⟩))
      have HN : Hid (Below w0.heap.size w0 (wr.alloc (.cells #[.int .i64 a, .int .i64 b, .pointer (some ⟨g, k, none⟩)] 63)).drew) := Lib.hid (HR.out.1.trans (((Below.refl _ _).alloc (Nat.le_refl _) _).drew.mono HR.out.1.size))
      have e4 : (wr.alloc (.cells #[.int .i64 a, .int .i64 b, .pointer (some ⟨g, k, none⟩)] 63)).cell? ⟨g, k, none⟩ = some (.int .i64 (gotV zs (ps.take i) V k)) := cell_later ((Below.refl _ _).alloc (Nat.le_refl _) _) c4
      have f4 : (wr.alloc (.cells #[.int .i64 a, .int .i64 b, .pointer (some ⟨g, k, none⟩)] 63)).frozen? ⟨g, k, none⟩ = false := (HR.out.alloc _).2.2.2 k
      have i1 : (i : Int) < (n : Int) := by omega
      generalize getOut zs a b = x at *
      generalize fErr 64 a b = E at *
      generalize gotV zs (ps.take i) V k = y at *
      clear hpi c4 hgr h0 h1 h2 h3 h4 h5 HS
      go_wp2_with fail
      go_region_with (go_at_call 28; refine (HG.out _ HN.out).mono ?_; rintro e w5 ⟨rfl, rfl⟩)
      all_goals go_wp2_with fail
      all_goals go_roundw
      all_goals first
        | (exact ⟨i + 1, by go_num, by omega, Lib.hid (HO.out _), Lib.hid (HPO.out _ _)⟩)
        | (simp [intOf]; omega)
    · have hin : i = n := by omega
      subst hin
      have HT : Hid (ps.take i = ps) := Lib.hid (by rw [← hn]; exact List.take_length)
      go_wp2_with fail
      go_end0
      rw [HT.out] at HR
      exact ⟨rfl, HR.out⟩

theorem getNil_any (ao : Option Addr) (cap : Nat) (w : World) :
    Calls Try.prog 16 #[.slice ao 64 cap, .slice none 0 0] w fun e w' => e = .returned (.tuple #[]) ∧ w' = w := by
  go_enter Try.func16, Try.ntmps16
  go_wp2_with fail
  go_loopw [8] (fun iv wr => iv = .int .i64 0 ∧ wr = w) (fun iv _ => 0)
  case atStart => exact ⟨rfl, rfl⟩
  case round =>
    obtain ⟨rfl, rfl⟩ := hrel
    go_wp2_with fail
    go_end0
    exact ⟨rfl, rfl⟩

theorem get9_any (ao : Option Addr) (cap : Nat) (zs : List Int) (g : Nat) (v : Value) (ps : List Pl) (V : Nat → Int) (w0 w : World) (hA : Arg w0 ao 64 cap zs) (hn : ps.length ≤ 1000) (hps : ∀ p ∈ ps, okPl p) (hg : w0.heap.size ≤ g) (hp : PlArg w g v ps) (h : Rd9 w0 g V w) :
    Calls Try.prog 16 #[.slice ao 64 cap, v] w fun e w' => e = .returned (.tuple #[]) ∧ Rd9 w0 g (gotV zs ps V) w' := by
  obtain ⟨gp, cp, hne, ⟨rfl, rfl⟩ | ⟨rfl, hpl⟩⟩ := hp
  · exact (getNil_any ao cap w).mono (fun e w' ⟨h1, h2⟩ => ⟨h1, by rw [h2]; exact h⟩)
  · exact getPl_any ao cap zs gp cp g _ ps V w0 w hA rfl hn hps hg hne hpl h

/-- Places that a call handed back. -/
theorem Places.arg {w : World} {base g : Nat} {v : Value} {ps : List Pl} (h : Places w base g v ps) (hg : g < base) (hnil : ps = [] → v = .slice none 0 0) : PlArg w g v ps := by
  by_cases h0 : ps = []
  · exact ⟨g + 1, 0, by omega, Or.inl ⟨h0, hnil h0⟩⟩
  · obtain ⟨gp, cap, hv, hb, hpl⟩ := h.at (List.length_pos_iff.2 h0)
    exact ⟨gp, cap, by omega, Or.inr ⟨hv, hpl⟩⟩

end Go.Proofs.Ytojfhhmjoledjaa
