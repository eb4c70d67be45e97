/-
  Proved here: what the landed node's small tests answer: within, soundPointer, meets, soundExtents.
  The conditions stand at each theorem.
-/
import Derived.Test.YtojfhhmjoledjaaNode
import Derived.BigRegion
import Derived.Deep.RegionHeld
import Derived.Deep.QuietTactic
import Derived.BigQuiet
namespace Go.Proofs.Ytojfhhmjoledjaa
open Go.RowKit
set_option linter.unusedVariables false
set_option linter.unusedSimpArgs false

/-- Does a number lie between two others? -/
def inN (n lo hi : Int) : Bool := decide (lo ≤ n ∧ n ≤ hi)

theorem within9_any (n lo hi : Int) (w : World) : Calls Try.prog 31 #[.int .i64 n, .int .i64 lo, .int .i64 hi] w fun e w' => e = .returned (.bool (inN n lo hi)) ∧ w = w' := by
  by_cases h1 : lo ≤ n
  · by_cases h2 : n ≤ hi
    · have HE : Hid (inN n lo hi = true) := Lib.hid (decide_eq_true ⟨h1, h2⟩)
      go_enter Try.func31, Try.ntmps31
      go_wp2
      go_ret
      exact ⟨by rw [HE.out]; rfl, rfl⟩
    · have HE : Hid (inN n lo hi = false) := Lib.hid (decide_eq_false (fun h => h2 h.2))
      go_enter Try.func31, Try.ntmps31
      go_wp2
      go_ret
      exact ⟨by rw [HE.out]; rfl, rfl⟩
  · have HE : Hid (inN n lo hi = false) := Lib.hid (decide_eq_false (fun h => h1 h.1))
    go_enter Try.func31, Try.ntmps31
    go_wp2
    go_ret
    exact ⟨by rw [HE.out]; rfl, rfl⟩

theorem soundPointer_any (p : Int) (w : World) : Calls Try.prog 45 #[.int .i64 p] w fun e w' => e = .returned (.bool (ptrOk p)) ∧ w = w' := by
  by_cases h0 : p = 0
  · subst h0
    go_enter Try.func45, Try.ntmps45
    go_wp2
    go_ret
    exact ⟨rfl, rfl⟩
  · have hE : ptrOk p = inN p 59 479 := by unfold ptrOk inN; simp [h0]
    rw [hE]
    have h1 : (p == 0) = false := by simp [h0]
    have c := within9_any p 59 479 w
    generalize inN p 59 479 = t at *
    clear hE h0
    go_enter Try.func45, Try.ntmps45
    go_wp2_with (go_at_call 31; refine c.mono ?_; rintro e w' ⟨rfl, rfl⟩)
    go_ret
    exact ⟨rfl, rfl⟩

def xAgg (x : PX) (p q : Nat) : Value := .agg #[.int .i64 x.a, .complex .f64 p q]

set_option maxHeartbeats 800000 in
theorem meets1_any (x y : PX) (p q p' q' g : Nat) (w : World) (hx : runOk x.f x.c = true) (hy : runOk y.f y.c = true) (sx : smallX x) (sy : smallX y) (hp : FI p x.f) (hq : FI q x.c) (hp' : FI p' y.f) (hq' : FI q' y.c)
    (hc : w.cell? ⟨g, 1, none⟩ = some (.complex .f64 p q)) :
    Calls Try.prog 61 #[xAgg y p' q', .pointer (some ⟨g, 0, none⟩)] w fun e w' => e = .returned (.bool (meetsX x y)) ∧ Below w.heap.size w w' := by
  unfold xAgg
  have hb : Below w.heap.size w (w.alloc (.cells #[.int .i64 y.a, .complex .f64 p' q'] 40)) := (Below.refl _ _).alloc (Nat.le_refl _) _
  have hc1 := cell_later hb hc
  have c := fun W => Meet_any (.complex .f64 p q) (.complex .f64 p' q') x.f x.c y.f y.c W ⟨_, _, rfl, hp, hq⟩ ⟨_, _, rfl, hp', hq'⟩ hx hy sx.2 sy.2
  have HE : Hid (∀ r, CX r (ofA (meetF x.f y.f) (meetN x.f x.c y.f y.c)) (ofB (meetN x.f x.c y.f y.c)) → ∃ u v, r = .complex .f64 u v ∧ ((!(FloatKind.f64.format.order u 0 == some .eq)) || (!(FloatKind.f64.format.order v 0 == some .eq))) = meetsX x y) := Lib.hid (by
    rintro r ⟨u, v, rfl, h1, h2⟩
    refine ⟨u, v, rfl, ?_⟩
    unfold meetsX ofA ofB at *
    by_cases h : meetN x.f x.c y.f y.c < 1
    · rw [if_pos h] at h1 h2
      rw [fi_eq h1 fi_zero rfl, fi_eq h2 fi_zero rfl, decide_eq_false (by omega)]
      rfl
    · rw [if_neg h] at h1 h2
      rw [fi_gt h2 fi_zero (by omega), decide_eq_true (by omega)]
      simp)
  have HB := Lib.hid hb
  clear hc hb hp hq hp' hq' hx hy sx sy
  generalize meetsX x y = t at *
  go_enter Try.func61, Try.ntmps61
  go_wp2_with (go_at_call 62; refine (c _).mono ?_; rintro e w' ⟨r, rfl, hr, hb⟩; obtain ⟨u, v, rfl, he⟩ := HE.out r hr; have HR := Lib.hid he; have HB2 := Lib.hid (HB.out.trans (hb.mono HB.out.size)); clear hr hb he)
  go_ret
  exact ⟨by rw [← HR.out]; rfl, HB2.out⟩

set_option maxRecDepth 100000 in
set_option maxHeartbeats 1600000 in
theorem indexX_any {w : World} {ao : Option Addr} {m cap : Nat} {xs : List PX} (hX : XIs w ao m xs) (x : PX) (p q g : Nat) (hx : runOk x.f x.c = true) (sx : smallX x) (hp : FI p x.f) (hq : FI q x.c) (hc : w.cell? ⟨g, 1, none⟩ = some (.complex .f64 p q))
    (hr : ∀ y ∈ xs, runOk y.f y.c = true ∧ smallX y) :
    Calls Try.prog 65 #[.slice ao m cap, .func (.func 61) #[] #[.pointer (some ⟨g, 0, none⟩)]] w fun e w' => ∃ r : Int, e = .returned (.int .i64 r) ∧ decide (0 ≤ r) = xs.any (meetsX x) ∧ (-1 ≤ r ∧ r ≤ 3) ∧ Below w.heap.size w w' := by
  have hm := hX.2.1
  have HL := Lib.hid hX
  have HWL := Lib.hid hX.1
  have HC := Lib.hid hc
  have HR := Lib.hid hr
  have HP := Lib.hid (And.intro hp hq)
  clear hX hc hr hp hq
  go_enter Try.func65, Try.ntmps65
  go_wp2_with fail
  go_loopw [8] (fun iv wr => ∃ i : Nat, iv = .int .i64 (i : Int) ∧ i ≤ m ∧ Hid (Below w.heap.size w wr) ∧ Hid ((xs.take i).any (meetsX x) = false)) (fun iv _ => m - (intOf iv).toNat)
  case atStart => exact ⟨0, rfl, Nat.zero_le _, Lib.hid (Below.refl _ _), Lib.hid rfl⟩
  case round =>
    obtain ⟨i, rfl, hi, HB, HQ⟩ := hrel
    by_cases hlt : i < m
    · obtain ⟨b, off, y, p', q', rfl, hy, hmem, c1, c2, f1, f2⟩ := HL.out.at hlt
      have d1 : wr.cell? ⟨b, off + i * 2, none⟩ = some (.int .i64 y.a) := cell_later HB.out c1
      have d2 : wr.cell? ⟨b, off + i * 2 + 1, none⟩ = some (.complex .f64 p' q') := cell_later HB.out c2
      have i1 : (i : Int) < (m : Int) := by omega
      have cF := meets1_any x y p q p' q' g wr hx (HR.out y hmem).1 sx (HR.out y hmem).2 HP.out.1 HP.out.2 f1 f2 (cell_later HB.out HC.out)
      unfold xAgg at cF
      by_cases hv : meetsX x y = true
      · have HS := Lib.hid ((any_take_x (p := meetsX x) hy HQ.out).trans hv)
        have HV := Lib.hid (any_of_take_x HS.out)
        rw [hv] at cF
        clear hy hmem c1 c2 f1 f2 hv HS
        go_wp2_with (go_at_call 61; refine cF.mono ?_; rintro e w3 ⟨rfl, hb3⟩; have HB3 := Lib.hid hb3; clear hb3)
        go_ret
        exact ⟨(i : Int), rfl, by rw [HV.out]; exact decide_eq_true (by omega), by omega, HB.out.trans (HB3.out.mono HB.out.size)⟩
      · rw [Bool.not_eq_true] at hv
        have HS := Lib.hid ((any_take_x (p := meetsX x) hy HQ.out).trans hv)
        rw [hv] at cF
        clear hy hmem c1 c2 f1 f2 hv
        go_wp2_with (go_at_call 61; refine cF.mono ?_; rintro e w3 ⟨rfl, hb3⟩; have HB3 := Lib.hid hb3; clear hb3)
        go_roundw
        case rel => exact ⟨i + 1, by go_num, by omega, Lib.hid (HB.out.trans (HB3.out.mono HB.out.size)), HS⟩
        case measure => simp [intOf]; omega
    · have hin : i = m := by omega
      subst hin
      go_wp2_with fail
      go_ret
      refine ⟨-1, rfl, ?_, by omega, HB.out⟩
      have h := HQ.out
      rw [← HWL.out, List.take_length] at h
      rw [h]
      rfl

set_option maxHeartbeats 800000 in
theorem containsX_any {w : World} {ao : Option Addr} {m cap : Nat} {xs : List PX} (hX : XIs w ao m xs) (x : PX) (p q g : Nat) (hx : runOk x.f x.c = true) (sx : smallX x) (hp : FI p x.f) (hq : FI q x.c) (hc : w.cell? ⟨g, 1, none⟩ = some (.complex .f64 p q))
    (hr : ∀ y ∈ xs, runOk y.f y.c = true ∧ smallX y) :
    Calls Try.prog 60 #[.slice ao m cap, .func (.func 61) #[] #[.pointer (some ⟨g, 0, none⟩)]] w fun e w' => e = .returned (.bool (xs.any (meetsX x))) ∧ Below w.heap.size w w' := by
  have c := indexX_any (cap := cap) hX x p q g hx sx hp hq hc hr
  clear hX hc hr hp hq
  go_enter Try.func60, Try.ntmps60
  go_wp2_with (go_at_call 65; refine c.mono ?_; rintro e w2 ⟨r, rfl, hr, hrb, hb⟩; have HR := Lib.hid hr; have HB := Lib.hid hb; clear hr hb)
  go_ret
  exact ⟨by rw [← HR.out]; rfl, HB.out⟩

set_option maxHeartbeats 800000 in
theorem meets_any {w : World} {ao : Option Addr} {m cap : Nat} {xs : List PX} (hX : XIs w ao m xs) (x : PX) (p q : Nat) (hx : runOk x.f x.c = true) (sx : smallX x) (hp : FI p x.f) (hq : FI q x.c)
    (hr : ∀ y ∈ xs, runOk y.f y.c = true ∧ smallX y) :
    Calls Try.prog 56 #[xAgg x p q, .slice ao m cap] w fun e w' => e = .returned (.bool (xs.any (meetsX x))) ∧ Below w.heap.size w w' := by
  unfold xAgg
  have hb : Below w.heap.size w (w.alloc (.cells #[.int .i64 x.a, .complex .f64 p q] 40)) := (Below.refl _ _).alloc (Nat.le_refl _) _
  have c := containsX_any (cap := cap) (hX.later hb) x p q w.heap.size hx sx hp hq (by rw [World.cell?_alloc_new]; rfl) hr
  have HB := Lib.hid hb
  clear hX hr hp hq hb
  go_enter Try.func56, Try.ntmps56
  go_wp2_with (go_at_call 60; refine c.mono ?_; rintro e w2 ⟨rfl, hb⟩; have HB2 := Lib.hid (HB.out.trans (hb.mono HB.out.size)); clear hb)
  go_ret
  exact ⟨rfl, HB2.out⟩

end Go.Proofs.Ytojfhhmjoledjaa
