/-
  Proved here: what the document's own Same answers, of a node and the empty one, and of two nodes that are one.
  The conditions stand at each theorem.
-/
import Derived.Test.YtojfhhmjoledjaaNSameE
namespace Go.Proofs.Ytojfhhmjoledjaa
open Go.RowKit
set_option linter.unusedVariables false
set_option linter.unusedSimpArgs false

set_option maxHeartbeats 1600000 in
theorem rsame9_true (n : PNode) {ao bo : Option Addr} {m c1 c2 : Nat} (w : World) (hX : XIs w ao m n.x) (hY : XIs w bo m n.x) :
    Calls Try.prog 7 #[n.val (.slice ao m c1), n.val (.slice bo m c2)] w fun e w' => e = .returned (.bool true) ∧ Below w.heap.size w w' := by
  obtain ⟨k, f, l, z, d0, d1, d2, d3, s, t, x, c⟩ := n
  unfold PNode.val
  simp only at *
  have ED := eqD_any
  have hb : Below w.heap.size w ((w.alloc (.cells #[.int .i64 k, .int .i64 f, .int .i64 l, .int .i64 z, .int .i64 d0, .int .i64 d1, .int .i64 d2, .int .i64 d3, .int .i64 s, .int .i64 t, .slice ao m c1, .int .i64 c] 26)).alloc (.cells #[.int .i64 k, .int .i64 f, .int .i64 l, .int .i64 z, .int .i64 d0, .int .i64 d1, .int .i64 d2, .int .i64 d3, .int .i64 s, .int .i64 t, .slice bo m c2, .int .i64 c] 26)) := ((Below.refl _ _).alloc (Nat.le_refl _) _).alloc (by simp) _
  have cE := sameExt_same (c1 := c1) (c2 := c2) (hX.later hb) (hY.later hb)
  have HB := Lib.hid hb
  clear hX hY hb
  go_enter Try.func7, Try.ntmps7
  go_wp2_with (go_at_call 15; refine cE.mono ?_; rintro e w' ⟨rfl, hb⟩; have HB2 := Lib.hid (HB.out.trans (hb.mono HB.out.size)); have p11 := cell_later hb (show ((w.alloc (.cells #[.int .i64 k, .int .i64 f, .int .i64 l, .int .i64 z, .int .i64 d0, .int .i64 d1, .int .i64 d2, .int .i64 d3, .int .i64 s, .int .i64 t, .slice ao m c1, .int .i64 c] 26)).alloc (.cells #[.int .i64 k, .int .i64 f, .int .i64 l, .int .i64 z, .int .i64 d0, .int .i64 d1, .int .i64 d2, .int .i64 d3, .int .i64 s, .int .i64 t, .slice bo m c2, .int .i64 c] 26)).cell? ⟨w.heap.size, 11, none⟩ = some (.int .i64 c) from made2_a w _ _ _ _ 11 _ rfl); have q11 := cell_later hb (show ((w.alloc (.cells #[.int .i64 k, .int .i64 f, .int .i64 l, .int .i64 z, .int .i64 d0, .int .i64 d1, .int .i64 d2, .int .i64 d3, .int .i64 s, .int .i64 t, .slice ao m c1, .int .i64 c] 26)).alloc (.cells #[.int .i64 k, .int .i64 f, .int .i64 l, .int .i64 z, .int .i64 d0, .int .i64 d1, .int .i64 d2, .int .i64 d3, .int .i64 s, .int .i64 t, .slice bo m c2, .int .i64 c] 26)).cell? ⟨w.heap.size + 1, 11, none⟩ = some (.int .i64 c) from made2_b w _ _ _ _ 11 _ rfl); clear hb)
  go_ret
  exact ⟨rfl, HB2.out⟩

set_option maxHeartbeats 3200000 in
theorem rsame9_none (n : PNode) (hk : n.k = 0) {ao : Option Addr} {m c1 : Nat} (w : World) (hX : XIs w ao m n.x) :
    Calls Try.prog 7 #[n.val (.slice ao m c1), noNode.val (.slice none 0 0)] w fun e w' => e = .returned (.bool (decide (n = noNode))) ∧ Below w.heap.size w w' := by
  obtain ⟨k, f, l, z, d0, d1, d2, d3, s, t, x, c⟩ := n
  have hk' : k = 0 := hk
  subst hk'
  clear hk
  have hm := hX.2.1
  have hxl : x.length = m := hX.1
  unfold noNode PNode.val
  simp only
  have ED := eqD_any
  have HB : Hid (Below w.heap.size w ((w.alloc (.cells #[.int .i64 0, .int .i64 f, .int .i64 l, .int .i64 z, .int .i64 d0, .int .i64 d1, .int .i64 d2, .int .i64 d3, .int .i64 s, .int .i64 t, .slice ao m c1, .int .i64 c] 26)).alloc (.cells #[.int .i64 0, .int .i64 0, .int .i64 0, .int .i64 0, .int .i64 0, .int .i64 0, .int .i64 0, .int .i64 0, .int .i64 0, .int .i64 0, .slice none 0 0, .int .i64 0] 26))) := Lib.hid (((Below.refl _ _).alloc (Nat.le_refl _) _).alloc (by simp) _)
  have cE := fun W => sameExt_nil (ao := ao) (c1 := c1) (w := W) hm
  clear hX
  by_cases hf : f = 0
  case neg =>
    have HV : Hid (decide ((⟨0, f, l, z, d0, d1, d2, d3, s, t, x, c⟩ : PNode) = ⟨0, 0, 0, 0, 0, 0, 0, 0, 0, 0, [], 0⟩) = false) := Lib.hid (decide_eq_false (fun h => by injection h with _ hh _ _ _ _ _ _ _ _ _ _; exact hf hh))
    have e1 : (f == 0) = false := by simp [hf]
    have e2 : decide (f = 0) = false := by simp [hf]
    clear hf
    go_enter Try.func7, Try.ntmps7
    go_wp2_with (go_at_call 15; refine (cE _).mono ?_; rintro e w' ⟨rfl, rfl⟩)
    go_ret
    exact ⟨by rw [HV.out]; rfl, HB.out⟩
  obtain rfl := hf
  by_cases hl : l = 0
  case neg =>
    have HV : Hid (decide ((⟨0, 0, l, z, d0, d1, d2, d3, s, t, x, c⟩ : PNode) = ⟨0, 0, 0, 0, 0, 0, 0, 0, 0, 0, [], 0⟩) = false) := Lib.hid (decide_eq_false (fun h => by injection h with _ _ hh _ _ _ _ _ _ _ _ _; exact hl hh))
    have e1 : (l == 0) = false := by simp [hl]
    have e2 : decide (l = 0) = false := by simp [hl]
    clear hl
    go_enter Try.func7, Try.ntmps7
    go_wp2_with (go_at_call 15; refine (cE _).mono ?_; rintro e w' ⟨rfl, rfl⟩)
    go_ret
    exact ⟨by rw [HV.out]; rfl, HB.out⟩
  obtain rfl := hl
  by_cases hz : z = 0
  case neg =>
    have HV : Hid (decide ((⟨0, 0, 0, z, d0, d1, d2, d3, s, t, x, c⟩ : PNode) = ⟨0, 0, 0, 0, 0, 0, 0, 0, 0, 0, [], 0⟩) = false) := Lib.hid (decide_eq_false (fun h => by injection h with _ _ _ hh _ _ _ _ _ _ _ _; exact hz hh))
    have e1 : (z == 0) = false := by simp [hz]
    have e2 : decide (z = 0) = false := by simp [hz]
    clear hz
    go_enter Try.func7, Try.ntmps7
    go_wp2_with (go_at_call 15; refine (cE _).mono ?_; rintro e w' ⟨rfl, rfl⟩)
    go_ret
    exact ⟨by rw [HV.out]; rfl, HB.out⟩
  obtain rfl := hz
  by_cases hd0 : d0 = 0
  case neg =>
    have HV : Hid (decide ((⟨0, 0, 0, 0, d0, d1, d2, d3, s, t, x, c⟩ : PNode) = ⟨0, 0, 0, 0, 0, 0, 0, 0, 0, 0, [], 0⟩) = false) := Lib.hid (decide_eq_false (fun h => by injection h with _ _ _ _ hh _ _ _ _ _ _ _; exact hd0 hh))
    have e1 : (d0 == 0) = false := by simp [hd0]
    have e2 : decide (d0 = 0) = false := by simp [hd0]
    clear hd0
    go_enter Try.func7, Try.ntmps7
    go_wp2_with (go_at_call 15; refine (cE _).mono ?_; rintro e w' ⟨rfl, rfl⟩)
    go_ret
    exact ⟨by rw [HV.out]; rfl, HB.out⟩
  obtain rfl := hd0
  by_cases hd1 : d1 = 0
  case neg =>
    have HV : Hid (decide ((⟨0, 0, 0, 0, 0, d1, d2, d3, s, t, x, c⟩ : PNode) = ⟨0, 0, 0, 0, 0, 0, 0, 0, 0, 0, [], 0⟩) = false) := Lib.hid (decide_eq_false (fun h => by injection h with _ _ _ _ _ hh _ _ _ _ _ _; exact hd1 hh))
    have e1 : (d1 == 0) = false := by simp [hd1]
    have e2 : decide (d1 = 0) = false := by simp [hd1]
    clear hd1
    go_enter Try.func7, Try.ntmps7
    go_wp2_with (go_at_call 15; refine (cE _).mono ?_; rintro e w' ⟨rfl, rfl⟩)
    go_ret
    exact ⟨by rw [HV.out]; rfl, HB.out⟩
  obtain rfl := hd1
  by_cases hd2 : d2 = 0
  case neg =>
    have HV : Hid (decide ((⟨0, 0, 0, 0, 0, 0, d2, d3, s, t, x, c⟩ : PNode) = ⟨0, 0, 0, 0, 0, 0, 0, 0, 0, 0, [], 0⟩) = false) := Lib.hid (decide_eq_false (fun h => by injection h with _ _ _ _ _ _ hh _ _ _ _ _; exact hd2 hh))
    have e1 : (d2 == 0) = false := by simp [hd2]
    have e2 : decide (d2 = 0) = false := by simp [hd2]
    clear hd2
    go_enter Try.func7, Try.ntmps7
    go_wp2_with (go_at_call 15; refine (cE _).mono ?_; rintro e w' ⟨rfl, rfl⟩)
    go_ret
    exact ⟨by rw [HV.out]; rfl, HB.out⟩
  obtain rfl := hd2
  by_cases hd3 : d3 = 0
  case neg =>
    have HV : Hid (decide ((⟨0, 0, 0, 0, 0, 0, 0, d3, s, t, x, c⟩ : PNode) = ⟨0, 0, 0, 0, 0, 0, 0, 0, 0, 0, [], 0⟩) = false) := Lib.hid (decide_eq_false (fun h => by injection h with _ _ _ _ _ _ _ hh _ _ _ _; exact hd3 hh))
    have e1 : (d3 == 0) = false := by simp [hd3]
    have e2 : decide (d3 = 0) = false := by simp [hd3]
    clear hd3
    go_enter Try.func7, Try.ntmps7
    go_wp2_with (go_at_call 15; refine (cE _).mono ?_; rintro e w' ⟨rfl, rfl⟩)
    go_ret
    exact ⟨by rw [HV.out]; rfl, HB.out⟩
  obtain rfl := hd3
  by_cases hs : s = 0
  case neg =>
    have HV : Hid (decide ((⟨0, 0, 0, 0, 0, 0, 0, 0, s, t, x, c⟩ : PNode) = ⟨0, 0, 0, 0, 0, 0, 0, 0, 0, 0, [], 0⟩) = false) := Lib.hid (decide_eq_false (fun h => by injection h with _ _ _ _ _ _ _ _ hh _ _ _; exact hs hh))
    have e1 : (s == 0) = false := by simp [hs]
    have e2 : decide (s = 0) = false := by simp [hs]
    clear hs
    go_enter Try.func7, Try.ntmps7
    go_wp2_with (go_at_call 15; refine (cE _).mono ?_; rintro e w' ⟨rfl, rfl⟩)
    go_ret
    exact ⟨by rw [HV.out]; rfl, HB.out⟩
  obtain rfl := hs
  by_cases ht : t = 0
  case neg =>
    have HV : Hid (decide ((⟨0, 0, 0, 0, 0, 0, 0, 0, 0, t, x, c⟩ : PNode) = ⟨0, 0, 0, 0, 0, 0, 0, 0, 0, 0, [], 0⟩) = false) := Lib.hid (decide_eq_false (fun h => by injection h with _ _ _ _ _ _ _ _ _ hh _ _; exact ht hh))
    have e1 : (t == 0) = false := by simp [ht]
    have e2 : decide (t = 0) = false := by simp [ht]
    clear ht
    go_enter Try.func7, Try.ntmps7
    go_wp2_with (go_at_call 15; refine (cE _).mono ?_; rintro e w' ⟨rfl, rfl⟩)
    go_ret
    exact ⟨by rw [HV.out]; rfl, HB.out⟩
  obtain rfl := ht
  by_cases hc : c = 0
  case neg =>
    have HV : Hid (decide ((⟨0, 0, 0, 0, 0, 0, 0, 0, 0, 0, x, c⟩ : PNode) = ⟨0, 0, 0, 0, 0, 0, 0, 0, 0, 0, [], 0⟩) = false) := Lib.hid (decide_eq_false (fun h => by injection h with _ _ _ _ _ _ _ _ _ _ _ hh; exact hc hh))
    have e1 : (c == 0) = false := by simp [hc]
    have e2 : decide (c = 0) = false := by simp [hc]
    clear hc
    go_enter Try.func7, Try.ntmps7
    go_wp2_with (go_at_call 15; refine (cE _).mono ?_; rintro e w' ⟨rfl, rfl⟩)
    go_ret
    exact ⟨by rw [HV.out]; rfl, HB.out⟩
  obtain rfl := hc
  by_cases hx : m = 0
  case neg =>
    have HV : Hid (decide ((⟨0, 0, 0, 0, 0, 0, 0, 0, 0, 0, x, 0⟩ : PNode) = ⟨0, 0, 0, 0, 0, 0, 0, 0, 0, 0, [], 0⟩) = false) := Lib.hid (decide_eq_false (fun h => by injection h with _ _ _ _ _ _ _ _ _ _ hh _; apply hx; rw [← hxl, hh]; rfl))
    have dx : decide (m = 0) = false := decide_eq_false hx
    rw [dx] at cE
    clear hx
    go_enter Try.func7, Try.ntmps7
    go_wp2_with (go_at_call 15; refine (cE _).mono ?_; rintro e w' ⟨rfl, rfl⟩)
    go_ret
    exact ⟨by rw [HV.out]; rfl, HB.out⟩
  have hx0 : x = [] := List.length_eq_zero_iff.1 (by rw [hxl, hx])
  have dx : decide (m = 0) = true := decide_eq_true hx
  rw [dx] at cE
  clear hx hxl
  subst hx0
  have HV : Hid (decide ((⟨0, 0, 0, 0, 0, 0, 0, 0, 0, 0, [], 0⟩ : PNode) = ⟨0, 0, 0, 0, 0, 0, 0, 0, 0, 0, [], 0⟩) = true) := Lib.hid (decide_eq_true rfl)
  go_enter Try.func7, Try.ntmps7
  go_wp2_with (go_at_call 15; refine (cE _).mono ?_; rintro e w' ⟨rfl, rfl⟩)
  go_ret
  exact ⟨by rw [HV.out]; rfl, HB.out⟩

end Go.Proofs.Ytojfhhmjoledjaa
