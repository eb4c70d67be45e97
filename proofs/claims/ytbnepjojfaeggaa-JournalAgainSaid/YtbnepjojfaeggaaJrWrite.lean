/-
  Proved here: what the landed journal's write answers: groups of writes, each behind a barrier.
  The conditions stand at each theorem.
-/
import Derived.Test.YtbnepjojfaeggaaJrSmall
import Derived.StillTailTactics
namespace Go.Proofs.Ytbnepjojfaeggaa
open Go.RowKit
set_option linter.unusedVariables false
set_option linter.unusedSimpArgs false

/-- Groups of blocks, each of which lasts ahead of the next one. -/
def writeP : DM → List (List (Int × List Int)) → DM × Int
  | D, [] => (D, 0)
  | D, g :: r => if (putRes D g).2 ≠ 0 then putRes D g else if (barRes (putRes D g).1).2 ≠ 0 then barRes (putRes D g).1 else writeP (barRes (putRes D g).1).1 r

/-- A list of lists of writes, in blocks of H. -/
def GsIs (w : World) (H : Nat → Prop) (ao : Option Addr) (n : Nat) (gs : List (List (Int × List Int))) : Prop :=
  gs.length = n ∧ n ≤ 1000000 ∧ (n = 0 ∨ ∃ b off, ao = some ⟨b, off, none⟩ ∧ H b ∧ ∀ (j : Nat) (g : List (Int × List Int)), gs[j]? = some g → ∃ lo ll lc, w.cell? ⟨b, off + j, none⟩ = some (.slice lo ll lc) ∧ ListIs w H lo ll g)

theorem ListIs.keep {w w' : World} {H : Nat → Prop} {ao : Option Addr} {m : Nat} {ws : List (Int × List Int)} (h : ListIs w H ao m ws) (hb : ∀ k, H k → w'.heap[k]? = w.heap[k]?) : ListIs w' H ao m ws := by
  obtain ⟨h1, h2, h3⟩ := h
  refine ⟨h1, h2, h3.imp_right ?_⟩
  rintro ⟨b, off, rfl, hg, hc⟩
  refine ⟨b, off, rfl, hg, fun j a zs hj => ?_⟩
  obtain ⟨c1, c2, ad, l, c, c3, hA, c4⟩ := hc j a zs hj
  refine ⟨by rw [cell_of_heap (p := ⟨b, off + 2 * j, none⟩) (hb b hg)]; exact c1, c2, ad, l, c, by rw [cell_of_heap (p := ⟨b, off + 2 * j + 1, none⟩) (hb b hg)]; exact c3, ?_, c4⟩
  obtain ⟨⟨q1, q2, q3, q4⟩, q5⟩ := hA
  refine ⟨⟨q1, q2, q3, ?_⟩, q5⟩
  rcases q4 with q4 | ⟨b', o', rfl, hz⟩
  · exact Or.inl q4
  · by_cases hl : l = 0
    · exact Or.inl hl
    · exact Or.inr ⟨b', o', rfl, fun i hi => by rw [cell_of_heap (p := ⟨b', o' + i, none⟩) (hb b' (c4 b' o' none rfl hl))]; exact hz i hi⟩
theorem GsIs.keep {w w' : World} {H : Nat → Prop} {ao : Option Addr} {n : Nat} {gs : List (List (Int × List Int))} (h : GsIs w H ao n gs) (hb : ∀ k, H k → w'.heap[k]? = w.heap[k]?) : GsIs w' H ao n gs := by
  obtain ⟨h1, h2, h3⟩ := h
  refine ⟨h1, h2, h3.imp_right ?_⟩
  rintro ⟨b, off, rfl, hg, hc⟩
  refine ⟨b, off, rfl, hg, fun j g hj => ?_⟩
  obtain ⟨lo, ll, lc, h4, h5⟩ := hc j g hj
  exact ⟨lo, ll, lc, by rw [cell_of_heap (p := ⟨b, off + j, none⟩) (hb b hg)]; exact h4, h5.keep hb⟩
theorem GsIs.at {w : World} {H : Nat → Prop} {ao : Option Addr} {n i : Nat} {gs : List (List (Int × List Int))} (h : GsIs w H ao n gs) (hi : i < n) : ∃ b off g lo ll lc, ao = some ⟨b, off, none⟩ ∧ H b ∧ gs[i]? = some g ∧ w.cell? ⟨b, off + i, none⟩ = some (.slice lo ll lc) ∧ ListIs w H lo ll g := by
  obtain ⟨h1, h2, h3⟩ := h
  obtain ⟨b, off, rfl, hg, hc⟩ := h3.resolve_left (by omega)
  have hj : gs[i]? = some gs[i] := List.getElem?_eq_getElem (by omega)
  obtain ⟨lo, ll, lc, h4, h5⟩ := hc i _ hj
  exact ⟨b, off, _, lo, ll, lc, rfl, hg, hj, h4, h5⟩
/-- Keeping what Grew keeps. -/
theorem Grew.keepH {F F' : Nat → Prop} {w w' : World} (h : Grew F F' w w') {H : Nat → Prop} (hH : ∀ k, H k → k < w.heap.size ∧ ¬ F k) : (∀ k, H k → w'.heap[k]? = w.heap[k]?) ∧ ∀ k, H k → k < w'.heap.size ∧ ¬ F' k :=
  ⟨fun k hk => grew_kept h (hH k hk).1 (hH k hk).2, fun k hk => ⟨Nat.lt_of_lt_of_le (hH k hk).1 h.2.2.2.1, fun hf => (h.2.2.2.2.2 k hf).elim (hH k hk).2 (fun h2 => by have := (hH k hk).1; omega)⟩⟩
def Writing (w : World) (a : Addr) (F : Nat → Prop) (D : DM) (gs : List (List (Int × List Int))) (i : Nat) (wr : World) : Prop :=
  ∃ F1 D1, DI wr a F1 D1 ∧ Grew F F1 w wr ∧ (∀ k, (D1.hist k).length ≤ 1000000000) ∧ writeP D gs = writeP D1 (gs.drop i)
theorem drop_at {α : Type} {l : List α} {i : Nat} {x : α} (h : l[i]? = some x) : l.drop i = x :: l.drop (i + 1) := by
  obtain ⟨hi, rfl⟩ := List.getElem?_eq_some_iff.1 h
  exact List.drop_eq_getElem_cons hi
theorem writeP_step {D D2 D3 : DM} {g : List (Int × List Int)} {r : List (List (Int × List Int))} {e2 e3 : Int} (h : putRes D g = (D2, e2)) (h2 : barRes D2 = (D3, e3)) : writeP D (g :: r) = if e2 ≠ 0 then (D2, e2) else if e3 ≠ 0 then (D3, e3) else writeP D3 r := by
  show (if (putRes D g).2 ≠ 0 then putRes D g else if (barRes (putRes D g).1).2 ≠ 0 then barRes (putRes D g).1 else writeP (barRes (putRes D g).1).1 r) = _
  rw [h, h2]
theorem bar_small {D D3 : DM} (h : barRes D = (D3, 0)) : ∀ k, (D3.hist k).length ≤ 1000000000 := fun k => by
  unfold barRes at h
  split at h
  · cases h
  · split at h
    · cases h
    · obtain ⟨rfl, _⟩ := Prod.mk.inj h
      show ([_] : List (List Int)).length ≤ _
      simp

set_option maxRecDepth 100000 in
set_option maxHeartbeats 3200000 in
theorem jwrite_any {w : World} {a : Addr} {F : Nat → Prop} {D : DM} {H : Nat → Prop} {ao : Option Addr} {n cap : Nat} {gs : List (List (Int × List Int))} (hD : DI w a F D) (hG : GsIs w H ao n gs) (hH : ∀ k, H k → k < w.heap.size ∧ ¬ F k) (hs : ∀ k, (D.hist k).length ≤ 1000000000) (hl : ∀ g ∈ gs, g.length ≤ 1000000000) :
    Calls Try.prog 34 #[.pointer (some a), .slice ao n cap] w fun e w' => ∃ F', e = .returned (.int .i64 (writeP D gs).2) ∧ DI w' a F' (writeP D gs).1 ∧ Grew F F' w w' := by
  have hn := hG.2.1
  have HD := Lib.hid hD
  have HG := Lib.hid hG
  have HH := Lib.hid hH
  have HS := Lib.hid hs
  have HL := Lib.hid hl
  clear hD hG hH hs hl
  go_enter Try.func34, Try.ntmps34
  go_wp2_with fail
  go_loopw [11] (fun iv wr => ∃ i : Nat, iv = .int .i64 (i : Int) ∧ i ≤ n ∧ Hid (Writing w a F D gs i wr)) (fun iv _ => n - (intOf iv).toNat)
  case atStart => exact ⟨0, rfl, Nat.zero_le _, Lib.hid ⟨F, D, HD.out, Grew.refl _ _, HS.out, rfl⟩⟩
  case round =>
    obtain ⟨i, rfl, hi, HR⟩ := hrel
    obtain ⟨F1, D1, hD1, hg1, hs1, hw1⟩ := HR.out
    by_cases hlt : i < n
    · have i1 : (i : Int) < (n : Int) := by omega
      have i0 : (0 : Int) ≤ (i : Int) := by omega
      obtain ⟨b, off, g, lo, ll, lc, rfl, hb, hg, hc, hL⟩ := HG.out.at hlt
      have hk := hg1.keepH HH.out
      have hc1 : wr.cell? ⟨b, off + i, none⟩ = some (.slice lo ll lc) := by rw [cell_of_heap (p := ⟨b, off + i, none⟩) (hk.1 b hb)]; exact hc
      have HL1 := Lib.hid (hL.keep hk.1)
      have HK1 := Lib.hid hk.2
      have HD1 := Lib.hid hD1
      have HG1 := Lib.hid hg1
      have HS1 := Lib.hid hs1
      have HGL := Lib.hid (HL.out g (List.mem_of_getElem? hg))
      rw [drop_at hg] at hw1
      obtain ⟨⟨D2, e2⟩, hp⟩ : ∃ r, putRes D1 g = r := ⟨_, rfl⟩
      obtain ⟨⟨D3, e3⟩, hq⟩ : ∃ r, barRes D2 = r := ⟨_, rfl⟩
      have hws := writeP_step (r := gs.drop (i + 1)) hp hq
      rw [hws] at hw1
      have HP := Lib.hid hp
      have HQ := Lib.hid hq
      have HW1 := Lib.hid hw1
      clear hb hg hc hL hk hD1 hg1 hs1 hp hq hws hw1 HR
      by_cases h2 : e2 = 0
      · by_cases h3 : e3 = 0
        · subst h2
          subst h3
          go_wp2_with (first
            | (go_at_call 26; refine (diskOk.barrier HD2.out).mono ?_; rintro e w3 ⟨F3, rfl, hD3, hg3⟩; rw [HQ.out] at hD3; rw [HQ.out]; have HD3 := Lib.hid hD3; have HG3 := Lib.hid (HG2.out.trans hg3); clear hD3 hg3)
            | (go_at_call 23; refine (diskOk.put H lo ll lc g HD1.out HL1.out (fun k hf hh => (HK1.out k hh).2 hf) (fun k _ => by have h1 := HS1.out k; have h2 := HGL.out; omega)).mono ?_; rintro e w2 ⟨F2, rfl, hD2, hg2⟩; rw [HP.out] at hD2; rw [HP.out]; have HD2 := Lib.hid hD2; have HG2 := Lib.hid (HG1.out.trans hg2); clear hD2 hg2))
          go_roundw
          case rel => exact ⟨i + 1, by go_num, by omega, Lib.hid ⟨F3, D3, HD3.out, HG3.out, bar_small HQ.out, by rw [HW1.out, if_neg (by simp), if_neg (by simp)]⟩⟩
          case measure => simp [intOf]; omega
        · subst h2
          go_wp2_with (first
            | (go_at_call 26; refine (diskOk.barrier HD2.out).mono ?_; rintro e w3 ⟨F3, rfl, hD3, hg3⟩; rw [HQ.out] at hD3; rw [HQ.out]; have HD3 := Lib.hid hD3; have HG3 := Lib.hid (HG2.out.trans hg3); clear hD3 hg3)
            | (go_at_call 23; refine (diskOk.put H lo ll lc g HD1.out HL1.out (fun k hf hh => (HK1.out k hh).2 hf) (fun k _ => by have h1 := HS1.out k; have h2 := HGL.out; omega)).mono ?_; rintro e w2 ⟨F2, rfl, hD2, hg2⟩; rw [HP.out] at hD2; rw [HP.out]; have HD2 := Lib.hid hD2; have HG2 := Lib.hid (HG1.out.trans hg2); clear hD2 hg2))
          go_ret
          rw [HW1.out, if_neg (by simp), if_pos h3]
          exact ⟨F3, rfl, HD3.out, HG3.out⟩
      · go_wp2_with (first
          | (go_at_call 23; refine (diskOk.put H lo ll lc g HD1.out HL1.out (fun k hf hh => (HK1.out k hh).2 hf) (fun k _ => by have h1 := HS1.out k; have h2 := HGL.out; omega)).mono ?_; rintro e w2 ⟨F2, rfl, hD2, hg2⟩; rw [HP.out] at hD2; rw [HP.out]; have HD2 := Lib.hid hD2; have HG2 := Lib.hid (HG1.out.trans hg2); clear hD2 hg2))
        go_ret
        rw [HW1.out, if_pos h2]
        exact ⟨F2, rfl, HD2.out, HG2.out⟩
    · have i1 : ¬ (i : Int) < (n : Int) := by omega
      have hz : gs.drop i = [] := List.drop_eq_nil_of_le (by rw [HG.out.1]; omega)
      rw [hz] at hw1
      have HW1 := Lib.hid hw1
      have HF1 := Lib.hid (And.intro hD1 hg1)
      clear hw1 hz hD1 hg1 HR
      go_wp2_with fail
      go_ret
      rw [HW1.out]
      exact ⟨rfl, F1, HF1.out.1, HF1.out.2⟩

end Go.Proofs.Ytbnepjojfaeggaa
