/-
  Proved here: plain facts on lists of gaps, and what slices.MinFunc answers of one (the least; of equals the first), and what choose's own predicate answers of a gap.
  The conditions stand at each theorem.
-/
import Derived.Test.YtfhfjnfejcggcaaGap
import Derived.Test.YtfhfjnfejcggcaaFree
import Derived.Test.YtfhfjnfejcggcaaLays
import Derived.Shelf.SlicesE.DeleteFunc
namespace Go.Proofs.Ytfhfjnfejcggcaa
open Go.RowKit

theorem gps_of : ∀ {xs : List Value} {l : List (Nat × Nat)}, Stands xs l → (∀ p ∈ l, p.1 + p.2 ≤ 480 ∧ 1 ≤ p.2) → ∃ gs : List Gp, gs.map encG = xs ∧ gs.map numG = l
  | [], [], _, _ => ⟨[], rfl, rfl⟩
  | [], p :: l, h, _ => by have := h.1; simp at this
  | x :: xs, [], h, _ => by have := h.1; simp at this
  | x :: xs, p :: l, h, hb => by
    obtain ⟨a, b, hx, fa, fb⟩ := h.2 0 x p rfl rfl
    obtain ⟨gs, h1, h2⟩ := gps_of (xs := xs) (l := l) ⟨by have := h.1; simpa using this, fun j y q hy hq => h.2 (j + 1) y q (by simpa using hy) (by simpa using hq)⟩ (fun q hq => hb q (List.mem_cons_of_mem _ hq))
    obtain ⟨b1, b2⟩ := hb p (List.mem_cons_self ..)
    exact ⟨mkG a b p fa fb b1 b2 :: gs, by rw [List.map_cons, h1, hx]; rfl, by rw [List.map_cons, h2]; rfl⟩

/-- The better of two: the first stands till a better one comes. -/
def stepG (cf : Gp → Gp → Int) (m x : Gp) : Gp := if cf x m < 0 then x else m

theorem cmpN_neg (a b : Nat) : cmpN a b < 0 ↔ a < b := by
  unfold cmpN
  by_cases h : a < b
  · simp [h]
  · by_cases h2 : b < a <;> simp [h, h2]

/-- Those that have so many. -/
def bigs (gs : List Gp) (n : Int) : List Gp := gs.filter fun z => !decide (((numG z).2 : Int) < n)

/-- What a choice among gaps picks is the least one, as a comparison has it, of those that are great enough. -/
def Picks (sel : List (Nat × Nat) → Nat → Option (Nat × Nat)) (cf : Gp → Gp → Int) : Prop :=
  ∀ (gs : List Gp) (n : Nat), (gs.map numG).Pairwise (fun a b => a.1 + a.2 < b.1) → sel (gs.map numG) n = match bigs gs n with | [] => none | x :: r => some (numG (r.foldl (stepG cf) x))

theorem first_step : ∀ (r : List Gp) (x : Gp), ((x :: r).map numG).Pairwise (fun a b => a.1 + a.2 < b.1) → r.foldl (stepG byFirst) x = x
  | [], _, _ => rfl
  | y :: r, x, h => by
    have hxy : (numG x).1 + (numG x).2 < (numG y).1 := (List.pairwise_cons.1 h).1 _ (by simp)
    have e : stepG byFirst x y = x := by
      unfold stepG byFirst
      rw [if_neg (by rw [cmpN_neg]; omega)]
    rw [List.foldl_cons, e]
    refine first_step r x ?_
    have h1 := List.pairwise_cons.1 h
    exact List.pairwise_cons.2 ⟨fun p hp => h1.1 p (List.mem_cons_of_mem _ hp), (List.pairwise_cons.1 h1.2).2⟩

theorem bigs_first : ∀ (gs : List Gp) (n : Nat), firstGap (gs.map numG) n = (bigs gs n).head?.map numG
  | [], _ => rfl
  | x :: gs, n => by
    have ih := bigs_first gs n
    unfold firstGap bigs at ih ⊢
    rw [List.map_cons, List.find?_cons, List.filter_cons]
    by_cases h : n ≤ (numG x).2
    · have h1 : decide (n ≤ (numG x).2) = true := decide_eq_true h
      have h2 : (!decide (((numG x).2 : Int) < (n : Int))) = true := by simp; omega
      rw [h1, if_pos h2]
      rfl
    · have h1 : decide (n ≤ (numG x).2) = false := decide_eq_false h
      have h2 : ¬ (!decide (((numG x).2 : Int) < (n : Int))) = true := by simp; omega
      rw [h1, if_neg h2]
      exact ih

theorem first_picks : Picks firstGap byFirst := by
  intro gs n hr
  rw [bigs_first]
  have hs : ((bigs gs n).map numG).Pairwise (fun a b => a.1 + a.2 < b.1) := hr.sublist ((List.filter_sublist).map numG)
  cases hb : bigs gs n with
  | nil => rfl
  | cons x r =>
    rw [hb] at hs
    show some (numG x) = some (numG (r.foldl (stepG byFirst) x))
    rw [first_step r x hs]

def stepO (cf : Gp → Gp → Int) : Option Gp → Gp → Option Gp
  | none, x => some x
  | some m, x => some (stepG cf m x)

theorem stepO_some (cf : Gp → Gp → Int) : ∀ (r : List Gp) (x : Gp), r.foldl (stepO cf) (some x) = some (r.foldl (stepG cf) x)
  | [], _ => rfl
  | y :: r, x => stepO_some cf r (stepG cf x y)

theorem tight_fold (n : Nat) : ∀ (gs : List Gp) (o : Option Gp), (gs.map numG).foldl (tighter n) (o.map numG) = ((bigs gs n).foldl (stepO byCount) o).map numG
  | [], _ => rfl
  | x :: gs, o => by
    unfold bigs
    rw [List.map_cons, List.foldl_cons, List.filter_cons]
    by_cases h : n ≤ (numG x).2
    · have h2 : (!decide (((numG x).2 : Int) < (n : Int))) = true := by simp; omega
      rw [if_pos h2, List.foldl_cons]
      have e : tighter n (o.map numG) (numG x) = (stepO byCount o x).map numG := by
        cases o with
        | none => show (if n ≤ (numG x).2 then some (numG x) else none) = _; rw [if_pos h]; rfl
        | some m =>
          show (if n ≤ (numG x).2 ∧ (numG x).2 < (numG m).2 then some (numG x) else some (numG m)) = some (numG (stepG byCount m x))
          unfold stepG byCount
          by_cases hl : (numG x).2 < (numG m).2
          · rw [if_pos ⟨h, hl⟩, if_pos ((cmpN_neg _ _).2 hl)]
          · rw [if_neg (fun hh => hl hh.2), if_neg (fun hh => hl ((cmpN_neg _ _).1 hh))]
      rw [e]
      exact tight_fold n gs (stepO byCount o x)
    · have h2 : ¬ (!decide (((numG x).2 : Int) < (n : Int))) = true := by simp; omega
      rw [if_neg h2]
      have e : tighter n (o.map numG) (numG x) = o.map numG := by
        cases o with
        | none => show (if n ≤ (numG x).2 then some (numG x) else none) = _; rw [if_neg h]; rfl
        | some m =>
          show (if n ≤ (numG x).2 ∧ (numG x).2 < (numG m).2 then some (numG x) else some (numG m)) = some (numG m)
          rw [if_neg (fun hh => h hh.1)]
      rw [e]
      exact tight_fold n gs o

theorem tight_picks : Picks tightGap byCount := by
  intro gs n _
  have h := tight_fold n gs none
  unfold tightGap
  rw [show (none : Option (Nat × Nat)) = (none : Option Gp).map numG from rfl, h]
  cases hb : bigs gs n with
  | nil => rfl
  | cons x r =>
    show ((r.foldl (stepO byCount) (some x)).map numG) = some (numG (r.foldl (stepG byCount) x))
    rw [stepO_some]
    rfl

theorem stepG_snoc (cf : Gp → Gp → Int) {r : List Gp} {t : Nat} {y : Gp} (x : Gp) (h : r[t]? = some y) : (r.take (t + 1)).foldl (stepG cf) x = stepG cf ((r.take t).foldl (stepG cf) x) y := by
  rw [List.take_add_one, h]
  show List.foldl _ _ (r.take t ++ [y]) = _
  rw [List.foldl_append]
  rfl

set_option maxRecDepth 100000 in
set_option maxHeartbeats 1600000 in
theorem Min_any (g : Nat) (cf : Gp → Gp → Int) (hc : Cmps g cf) (eg : ∀ args w, (callFunc g args).run Try.prog w = .ok (.enter g args) w) (b off cap m : Nat) (x0 : Gp) (r : List Gp) (w : World) (hm : (x0 :: r).length = m) (hlen : m ≤ 481)
    (hV : ∀ (j : Nat) (x : Gp), (x0 :: r)[j]? = some x → w.cell? ⟨b, off + j, none⟩ = some (encG x)) :
    Calls Try.prog 42 #[.slice (some ⟨b, off, none⟩) m cap, .func (.func g) #[] #[]] w fun e w' => e = .returned (encG (r.foldl (stepG cf) x0)) ∧ w = w' := by
  have c0 := hV 0 x0 rfl
  rw [Nat.add_zero] at c0
  have HV := Lib.hid hV
  have HC := Lib.hid hc
  have h1 : 1 ≤ m := by rw [← hm]; simp
  have HM := Lib.hid hm
  unfold encG at c0 ⊢
  clear hV hc hm
  go_enter Try.func42, Try.ntmps42
  go_wp2_with fail
  go_loop [5, 6] (fun mv tv => ∃ (i : Nat) (z : Gp), 1 ≤ i ∧ i ≤ m ∧ mv = .complex .f64 z.1.1.1 z.1.1.2 ∧ tv = .int .i64 (i : Int) ∧ Hid (z = (r.take (i - 1)).foldl (stepG cf) x0)) (fun _ tv => m - (intOf tv).toNat)
  case atStart => exact ⟨1, x0, Nat.le_refl _, h1, rfl, rfl, Lib.hid rfl⟩
  case round =>
    obtain ⟨i, z, i1, i2, rfl, rfl, HZ⟩ := hrel
    by_cases hlt : i < m
    · obtain ⟨x, hx⟩ : ∃ x, r[i - 1]? = some x := ⟨_, List.getElem?_eq_getElem (by have := HM.out; rw [List.length_cons] at this; omega)⟩
      have hcell := HV.out i x (by
        obtain ⟨k, rfl⟩ : ∃ k, i = k + 1 := ⟨i - 1, by omega⟩
        simpa using hx)
      have cC := HC.out x z w
      have HN : Hid (stepG cf z x = (r.take i).foldl (stepG cf) x0) := Lib.hid (by
        have h := stepG_snoc cf x0 hx
        rw [show i - 1 + 1 = i by omega, ← HZ.out] at h
        exact h.symm)
      unfold encG at hcell cC
      clear hx
      by_cases hn : cf x z < 0
      · have HE : Hid (stepG cf z x = x) := Lib.hid (by unfold stepG; rw [if_pos hn])
        have hi : (i : Int) < (m : Int) := by omega
        go_wp2_with (go_at_fn g; refine cC.mono ?_; rintro e w' ⟨rfl, rfl⟩)
        go_round
        case rel => exact ⟨i + 1, x, by omega, by omega, rfl, by go_num, Lib.hid (by rw [← HE.out, HN.out]; rfl)⟩
        case measure => simp [intOf]; omega
      · have HE : Hid (stepG cf z x = z) := Lib.hid (by unfold stepG; rw [if_neg hn])
        have hi : (i : Int) < (m : Int) := by omega
        go_wp2_with (go_at_fn g; refine cC.mono ?_; rintro e w' ⟨rfl, rfl⟩)
        go_round
        case rel => exact ⟨i + 1, z, by omega, by omega, rfl, by go_num, Lib.hid (by rw [← HE.out, HN.out]; rfl)⟩
        case measure => simp [intOf]; omega
    · have hi : ¬ (i : Int) < (m : Int) := by omega
      have HF : Hid (z = r.foldl (stepG cf) x0) := Lib.hid (by
        rw [HZ.out, List.take_of_length_le (by have := HM.out; rw [List.length_cons] at this; omega)])
      go_wp2_with fail
      go_ret
      exact ⟨by rw [← HF.out]; rfl, rfl⟩

set_option maxHeartbeats 800000 in
theorem small_any (z : Gp) (n : Int) (B : Nat) (W : World) (hc : W.cell? ⟨B, 0, none⟩ = some (.int .i64 n)) :
    FnGives Try.prog 40 #[.pointer (some ⟨B, 0, none⟩)] #[encG z] (.bool (decide (((numG z).2 : Int) < n))) W := by
  show Calls Try.prog 40 #[encG z, .pointer (some ⟨B, 0, none⟩)] W _
  have cc : ∀ w, Calls Try.prog 29 #[encG z] w fun e w' => e = .returned (.int .i64 ((numG z).2 : Int)) ∧ w' = w := fun w => (count_gp z w).mono (by rintro e w' ⟨rfl, rfl⟩; exact ⟨rfl, rfl⟩)
  generalize ((numG z).2 : Int) = k at cc ⊢
  unfold encG at cc ⊢
  go_enter Try.func40, Try.ntmps40
  go_wp2_with fail
  go_quiet (first | (go_at_call 29; refine Calls.quiet_of_same (cc _)))
  go_wp2_with fail
  go_ret
  exact ⟨rfl, _, rfl⟩

end Go.Proofs.Ytfhfjnfejcggcaa
