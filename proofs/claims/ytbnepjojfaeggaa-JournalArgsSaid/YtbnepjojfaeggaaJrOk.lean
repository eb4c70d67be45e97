/-
  Proved here: the landed journal answers as JournalOk says.
  The conditions stand at each theorem.
-/
import Derived.Test.YtbnepjojfaeggaaJrCt
import Derived.Test.YtbnepjojfaeggaaJrOpen
import Derived.Test.YtbnepjojfaeggaaJrCom
namespace Go.Proofs.Ytbnepjojfaeggaa
open Go.RowKit
set_option linter.unusedVariables false
set_option linter.unusedSimpArgs false

theorem commit0_any {w : World} {q : Nat} {a : Addr} {F H : Nat → Prop} {D : DM} {x seq : Int} {gone : Bool} {lo : Option Addr} {ll lc : Nat} {ws : List (Int × List Int)} (hD : DI w a F D) (hv : V4 w q (.pointer (some a)) (.int .i64 x) (.int .i64 seq) (.bool gone)) (hx : 0 ≤ x ∧ x ≤ 39) (hs : 1 ≤ seq ∧ seq ≤ 1073741824) (hqF : ¬ F q)
    (hL : ListIs w H lo ll ws) (hFH : ∀ k, F k → ¬ H k) (hsm : smallD D) :
    Calls Try.prog 29 #[.pointer (some ⟨q, 0, none⟩), .slice lo ll lc] w fun e w' => e = .returned (.int .i64 (commit0 D ⟨x, seq, gone⟩ ws).2.2) ∧ ∃ F', DI w' a F' (commit0 D ⟨x, seq, gone⟩ ws).1 ∧
      V4 w' q (.pointer (some a)) (.int .i64 (commit0 D ⟨x, seq, gone⟩ ws).2.1.at_) (.int .i64 (commit0 D ⟨x, seq, gone⟩ ws).2.1.seq) (.bool gone) ∧ Grew (fun k => F k ∨ k = q) (fun k => F' k ∨ k = q) w w' ∧ ¬ F' q := by
  have hlen : ws.length = ll := hL.1
  have same : ∀ (E : Int) (e : Ending) (w' : World), commit0 D ⟨x, seq, gone⟩ ws = (D, ⟨x, seq, gone⟩, E) → (e = .returned (.int .i64 E) ∧ w' = w) → e = .returned (.int .i64 (commit0 D ⟨x, seq, gone⟩ ws).2.2) ∧ ∃ F', DI w' a F' (commit0 D ⟨x, seq, gone⟩ ws).1 ∧
      V4 w' q (.pointer (some a)) (.int .i64 (commit0 D ⟨x, seq, gone⟩ ws).2.1.at_) (.int .i64 (commit0 D ⟨x, seq, gone⟩ ws).2.1.seq) (.bool gone) ∧ Grew (fun k => F k ∨ k = q) (fun k => F' k ∨ k = q) w w' ∧ ¬ F' q := by
    rintro E e w' hc ⟨rfl, rfl⟩
    rw [hc]
    exact ⟨rfl, F, hD, hv, Grew.refl _ _, hqF⟩
  by_cases h0 : ll = 0
  · subst h0
    refine (commit_none w ⟨q, 0, none⟩ lo lc).mono (fun e w' h => same 0 e w' ?_ h)
    unfold commit0
    rw [if_pos (List.length_eq_zero_iff.1 hlen)]
  · have hne : ¬ ws = [] := fun e => h0 (by rw [← hlen, e]; rfl)
    by_cases h20 : 20 < ll
    · refine (commit_many w ⟨q, 0, none⟩ lo ll lc h20).mono (fun e w' h => same 1 e w' ?_ h)
      unfold commit0
      rw [if_neg hne, if_pos (by omega)]
    · by_cases hf : 1073741824 ≤ seq
      · refine (commit_full hv lo ll lc (by omega) (by omega) hf).mono (fun e w' h => same 11 e w' ?_ h)
        unfold commit0
        rw [if_neg hne, if_neg (by omega), if_pos hf]
      · exact (commit_main hD hv hx ⟨hs.1, by omega⟩ hqF hL hFH hsm (by omega) (by omega)).mono (fun e w' ⟨F', h1, h2⟩ => ⟨h1, F', h2⟩)

theorem commit0_sound {D : DM} {s : JS} {ws : List (Int × List Int)} (h : 0 ≤ s.at_ ∧ s.at_ ≤ 39 ∧ 1 ≤ s.seq ∧ s.seq ≤ 1073741824) : 0 ≤ (commit0 D s ws).2.1.at_ ∧ (commit0 D s ws).2.1.at_ ≤ 39 ∧ 1 ≤ (commit0 D s ws).2.1.seq ∧ (commit0 D s ws).2.1.seq ≤ 1073741824 := by
  unfold commit0
  split
  · exact h
  · split
    · exact h
    · split
      · exact h
      · next hf =>
        split
        · exact h
        · split
          · exact h
          · split
            · exact h
            · have h2 : nextA s ws.length < 40 := Nat.mod_lt _ (by decide)
              dsimp only
              omega
theorem Grew.after {F F' : Nat → Prop} {w w2 w3 : World} (h : Grew F F' w w2) (hb : Below w.heap.size w2 w3) : Grew F F' w w3 :=
  ⟨hb.os.trans h.1, hb.tape.trans h.2.1, hb.output.trans h.2.2.1, Nat.le_trans h.2.2.2.1 hb.size, fun k hk hn => (hb.block k hk).trans (h.2.2.2.2.1 k hk hn), h.2.2.2.2.2⟩

theorem jcommit_any {w : World} {j a : Addr} {F G : Nat → Prop} {d : DM} {s : JS} (H : Nat → Prop) (lo : Option Addr) (ll lc : Nat) (ws : List (Int × List Int)) (hD : DI w a F d) (hJ : JI2 w j a G s) (hFG : ∀ k, F k → ¬ G k) (hL : ListIs w H lo ll ws) (hFH : ∀ k, F k → ¬ H k) (hsm : smallD d) :
    Calls Try.prog 9 #[.pointer (some j), .slice lo ll lc] w fun e w' => ∃ F' G', e = .returned (.int .i64 (commitJ d s ws).2.2) ∧ DI w' a F' (commitJ d s ws).1 ∧ JI2 w' j a G' (commitJ d s ws).2.1 ∧ (∀ k, F' k → ¬ G' k) ∧ Grew (fun k => F k ∨ G k) (fun k => F' k ∨ G' k) w w' := by
  obtain ⟨⟨q, rfl, rfl, hv⟩, hb⟩ := hJ
  obtain ⟨x, seq, gone⟩ := s
  have hv : V4 w q (.pointer (some a)) (.int .i64 x) (.int .i64 seq) (.bool gone) := hv
  have hqF : ¬ F q := fun hf => hFG q hf rfl
  cases gone with
  | true =>
    refine (jcommit_gone hv lo ll lc).mono ?_
    rintro e w' ⟨rfl, hb2⟩
    have e : commitJ d ⟨x, seq, true⟩ ws = (d, ⟨x, seq, true⟩, 8) := by unfold commitJ; rw [if_pos rfl]
    rw [e]
    exact ⟨F, fun k => k = q, rfl, diskOk.later hD hb2, ⟨⟨q, rfl, rfl, hv.later hb2⟩, hb⟩, hFG, Grew.of_below hb2⟩
  | false =>
    obtain ⟨C, hC⟩ : ∃ C, commit0 d ⟨x, seq, false⟩ ws = C := ⟨_, rfl⟩
    have hcs := commit0_sound (D := d) (s := ⟨x, seq, false⟩) (ws := ws) hb
    rw [hC] at hcs
    have e : commitJ d ⟨x, seq, false⟩ ws = (C.1, ⟨C.2.1.at_, C.2.1.seq, decide (C.2.2 = 8)⟩, C.2.2) := by unfold commitJ; rw [if_neg (show ¬ false = true by decide), hC]
    rw [e]
    have hF : ∀ k, F k → k < w.heap.size := diskOk.lt hD
    have hq : q < w.heap.size := hv.lt
    refine (jcommit_of (E := C.2.2) (R := fun W w' => ∃ F', DI w' a F' C.1 ∧ V4 w' q (.pointer (some a)) (.int .i64 C.2.1.at_) (.int .i64 C.2.1.seq) (.bool false) ∧ Grew (fun k => F k ∨ k = q) (fun k => F' k ∨ k = q) W w' ∧ ¬ F' q) hv (fun W hW => ?_) (fun W w' hW hr => ?_)).mono ?_
    · have h := commit0_any (lc := lc) (diskOk.later hD hW) (hv.later hW) ⟨hb.1, hb.2.1⟩ hb.2.2 hqF (hL.later hW) hFH hsm
      rw [hC] at h
      exact h
    · obtain ⟨F', hD', hv', hg, hq'⟩ := hr
      refine ⟨fun k h1 h2 => grew_kept hg h2 (fun hf => ?_), hg.2.2.2.1, false, hv'.2.2.2.1, hv'.2.2.2.2 3⟩
      rcases hf with hf | hf
      · have := hF k hf
        omega
      · omega
    · rintro e w' ⟨rfl, W, w2, c, hW, ⟨F', hD', hv', hg, hq'⟩, hc1, hc2, rfl⟩
      have hcF : ¬ F' c := fun hf => by
        rcases hg.2.2.2.2.2 c (Or.inl hf) with h | h
        · rcases h with h | h
          · have := hF c h
            omega
          · omega
        · omega
      have hgA : Grew (fun k => F k ∨ k = q) (fun k => F' k ∨ k = q) w w2 := (Grew.of_below hW).trans hg
      have hb2 : Below w.heap.size w2 (w2.setCell ⟨c, 0, none⟩ (.int .i64 C.2.2)) := Below.setCell (Below.refl _ _) (p := ⟨c, 0, none⟩) hc1 _
      have hvc : V4 (w2.setCell ⟨c, 0, none⟩ (.int .i64 C.2.2)) q (.pointer (some a)) (.int .i64 C.2.1.at_) (.int .i64 C.2.1.seq) (.bool false) := hv'.kept (set_heap _ c 0 _ (by omega))
      refine ⟨F', fun k => k = q, rfl, ?_, ⟨⟨q, rfl, rfl, hvc.set3 _⟩, hcs⟩, fun k hf hk => hq' (by rw [← hk]; exact hf), (hgA.after hb2).trans (Grew.setCell _ _ (Or.inr rfl) _)⟩
      refine diskOk.kept hD' (fun k hf => ?_) (by rw [set_size, set_size]; exact Nat.le_refl _)
      rw [set_heap _ q 3 _ (fun e => hq' (by rw [← e]; exact hf)), set_heap _ c 0 _ (fun e => hcF (by rw [← e]; exact hf))]

theorem journalOk : JournalOk mJ JI2 where
  lt := fun h => JI.lt h.1
  kept := fun h hk _ => ⟨JI.kept h.1 hk, h.2⟩
  opens := fun {w a F d} hD hsm => by
    show Calls Try.prog 17 #[.pointer (some a)] w fun e w' => ∃ F' p, e = .returned (.tuple #[.pointer p, .int .i64 (openJ d).2.2]) ∧ DI w' a F' (openJ d).1 ∧ Grew F F' w w' ∧
      ((openJ d).2.1 = none → p = none) ∧ (∀ s, (openJ d).2.1 = some s → ∃ j G, p = some j ∧ JI2 w' j a G s ∧ (∀ k, G k → w.heap.size ≤ k) ∧ ∀ k, G k → ¬ F' k)
    by_cases hE : lookE d = 0
    · exact opens_ok hD hE hsm
    · refine (opens_err hD hE).mono ?_
      rintro e w' ⟨rfl, hb⟩
      rw [open_err hE]
      exact ⟨F, none, rfl, diskOk.later hD hb, Grew.of_below hb, fun _ => rfl, fun s hs => by cases hs⟩
  read := fun n hD hJ hn h8 => okRead n hD hJ.1 hn h8
  head := fun hJ => jhead_any hJ.1
  look := fun hD _ => okLook hD
  commit := fun H lo ll lc ws hD hJ hFG hL hFH _ hsm => jcommit_any H lo ll lc ws hD hJ hFG hL hFH hsm
end Go.Proofs.Ytbnepjojfaeggaa
