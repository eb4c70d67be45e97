/-
  Proved here: what the document's own Sound (drydockref09) answers of any small node.
  The conditions stand at each theorem.
-/
import Derived.Test.YtojfhhmjoledjaaNRExt
import Derived.Test.YtojfhhmjoledjaaNSameR
namespace Go.Proofs.Ytojfhhmjoledjaa
open Go.RowKit
set_option linter.unusedVariables false
set_option linter.unusedSimpArgs false

theorem ptrOk_data (p : Int) : ptrOk p = (decide (p = 0) || dataB p) := by
  unfold ptrOk dataB
  rw [Bool.eq_iff_iff]
  simp
  omega

/-- What the loop over the pointers asks of each. -/
def badP (f p : Int) : Bool := !decide (p = 0) && (decide (f = 2) || !dataB p)

theorem ptrs_ok (n : PNode) : (n.f = 1 → n.ptrs.all ptrOk = !(n.ptrs.any (badP n.f))) ∧ (n.f = 2 → n.ptrs.all (fun p => decide (p = 0)) = !(n.ptrs.any (badP n.f))) := by
  refine ⟨fun h => ?_, fun h => ?_⟩
  · rw [h]
    generalize n.ptrs = l
    induction l with
    | nil => rfl
    | cons x r ih =>
      rw [List.all_cons, List.any_cons, ih, ptrOk_data]
      unfold badP
      cases decide (x = 0) <;> cases dataB x <;> simp
  · rw [h]
    generalize n.ptrs = l
    induction l with
    | nil => rfl
    | cons x r ih =>
      rw [List.all_cons, List.any_cons, ih]
      unfold badP
      cases decide (x = 0) <;> simp

theorem rany_take {p : Int → Bool} {l : List Int} {i : Nat} {x : Int} (h : l[i]? = some x) (h0 : (l.take i).any p = false) : (l.take (i + 1)).any p = p x := by
  rw [List.take_add_one, h, List.any_append, h0]
  simp
theorem rany_of_take {p : Int → Bool} {l : List Int} {i : Nat} (h : (l.take i).any p = true) : l.any p = true := by
  rw [List.any_eq_true] at h ⊢
  obtain ⟨x, hx, hp⟩ := h
  exact ⟨x, List.mem_of_mem_take hx, hp⟩

/-- The head's test, as the document's own Sound has it. -/
def rheadB (k f l z : Int) : Bool := decide (k < 1 ∨ k > 2 ∨ f < 1 ∨ f > 2 ∨ l < 1 ∨ l > 1000 ∨ z < 0 ∨ z > 6144)

theorem rsound_head (n : PNode) (h0 : n.k ≠ 0) (h : rheadB n.k n.f n.l n.z = true) : n.sound = false := by
  have h := of_decide_eq_true h
  unfold PNode.sound
  rw [if_neg h0]
  by_cases hh : n.headOk = true
  · have hh' := of_decide_eq_true hh
    have : n.mapOk = false := by unfold PNode.mapOk; rw [if_neg (by omega), if_neg (by omega)]
    rw [this, Bool.and_false]
  · rw [Bool.not_eq_true] at hh
    rw [hh]; rfl

theorem rsound_map (n : PNode) (h : rheadB n.k n.f n.l n.z = false) : n.sound = n.mapOk ∧ (n.f = 1 ∨ n.f = 2) := by
  have h := of_decide_eq_false h
  unfold PNode.sound
  rw [if_neg (by omega), show n.headOk = true from decide_eq_true (by omega), Bool.true_and]
  exact ⟨rfl, by omega⟩

set_option maxRecDepth 100000 in
set_option maxHeartbeats 12800000 in
theorem Sound09_any (n : PNode) {ao : Option Addr} {m cap : Nat} (w : World) (hn : n.small) (hX : XIs w ao m n.x) :
    Calls Try.prog 22 #[n.val (.slice ao m cap)] w fun e w' => e = .returned (.bool n.sound) ∧ Below w.heap.size w w' := by
  have hm := hX.2.1
  have hxl : n.x.length = m := hX.1
  by_cases h0 : n.k = 0
  · have cS := fun (W : World) (hW : Below w.heap.size w W) => rsame9_none (c1 := cap) n h0 W (hX.later hW)
    have HV : Hid (n.sound = decide (n = noNode)) := Lib.hid (by unfold PNode.sound; rw [if_pos h0])
    obtain ⟨S, hS⟩ : ∃ S, n.sound = S := ⟨_, rfl⟩
    rw [hS] at HV ⊢
    rw [← HV.out] at cS
    clear HV hS hX hn hxl
    obtain ⟨k, f, l, z, d0, d1, d2, d3, s, t, x, c⟩ := n
    have h0' : k = 0 := h0
    subst h0'
    clear h0
    unfold PNode.val noNode at cS
    unfold PNode.val
    simp only at cS ⊢
    have CS := Lib.hid cS
    have HB : Hid (Below w.heap.size w (w.alloc (.cells #[.int .i64 0, .int .i64 f, .int .i64 l, .int .i64 z, .int .i64 d0, .int .i64 d1, .int .i64 d2, .int .i64 d3, .int .i64 s, .int .i64 t, .slice ao m cap, .int .i64 c] 26))) := Lib.hid ((Below.refl _ _).alloc (Nat.le_refl _) _)
    clear cS
    go_enter Try.func22, Try.ntmps22
    go_wp2_with (go_at_call 7; refine (CS.out _ HB.out).mono ?_; rintro e w' ⟨rfl, hb⟩; have HB2 := Lib.hid (HB.out.trans (hb.mono HB.out.size)); clear hb)
    go_ret
    exact ⟨rfl, HB2.out⟩
  · cases hh : rheadB n.k n.f n.l n.z with
    | true =>
      have HV := Lib.hid (rsound_head n h0 hh)
      obtain ⟨S, hS⟩ : ∃ S, n.sound = S := ⟨_, rfl⟩
      rw [hS] at HV ⊢
      clear hS hX hn hxl
      obtain ⟨k, f, l, z, d0, d1, d2, d3, s, t, x, c⟩ := n
      have hh := of_decide_eq_true hh
      simp only at hh h0
      unfold PNode.val
      simp only
      have e0 : (k == 0) = false := by simp [h0]
      have e0' : decide (k = 0) = false := by simp [h0]
      have HB : Hid (Below w.heap.size w (w.alloc (.cells #[.int .i64 k, .int .i64 f, .int .i64 l, .int .i64 z, .int .i64 d0, .int .i64 d1, .int .i64 d2, .int .i64 d3, .int .i64 s, .int .i64 t, .slice ao m cap, .int .i64 c] 26))) := Lib.hid ((Below.refl _ _).alloc (Nat.le_refl _) _)
      clear h0
      by_cases g0 : k < 1
      case pos =>
        clear hh
        go_enter Try.func22, Try.ntmps22
        go_wp2_with fail
        go_ret
        exact ⟨by rw [HV.out]; rfl, HB.out⟩
      by_cases g1 : k > 2
      case pos =>
        clear hh
        go_enter Try.func22, Try.ntmps22
        go_wp2_with fail
        go_ret
        exact ⟨by rw [HV.out]; rfl, HB.out⟩
      by_cases g2 : f < 1
      case pos =>
        clear hh
        go_enter Try.func22, Try.ntmps22
        go_wp2_with fail
        go_ret
        exact ⟨by rw [HV.out]; rfl, HB.out⟩
      by_cases g3 : f > 2
      case pos =>
        clear hh
        go_enter Try.func22, Try.ntmps22
        go_wp2_with fail
        go_ret
        exact ⟨by rw [HV.out]; rfl, HB.out⟩
      by_cases g4 : l < 1
      case pos =>
        clear hh
        go_enter Try.func22, Try.ntmps22
        go_wp2_with fail
        go_ret
        exact ⟨by rw [HV.out]; rfl, HB.out⟩
      by_cases g5 : l > 1000
      case pos =>
        clear hh
        go_enter Try.func22, Try.ntmps22
        go_wp2_with fail
        go_ret
        exact ⟨by rw [HV.out]; rfl, HB.out⟩
      by_cases g6 : z < 0
      case pos =>
        clear hh
        go_enter Try.func22, Try.ntmps22
        go_wp2_with fail
        go_ret
        exact ⟨by rw [HV.out]; rfl, HB.out⟩
      have g7 : z > 6144 := by omega
      clear hh
      go_enter Try.func22, Try.ntmps22
      go_wp2_with fail
      go_ret
      exact ⟨by rw [HV.out]; rfl, HB.out⟩
    | false =>
      obtain ⟨hsm, hff⟩ := rsound_map n hh
      have hp := ptrs_ok n
      have CA := Lib.hid (fun W => all09_any n (.slice ao m cap) rfl W ⟨ao, m, cap, rfl⟩)
      have HX := Lib.hid (fun (W : World) (hW : Below w.heap.size w W) => Extents09_any (cap := cap) (hX.later hW) hn.2.2.2.2.2.2.2.2.2.2.2)
      have hxs : soundXs n.x = soundFrom [] 0 0 n.x := by unfold soundXs; rw [decide_eq_true (by rw [hxl]; exact hm)]; rfl
      obtain ⟨S, hS⟩ : ∃ S, n.sound = S := ⟨_, rfl⟩
      rw [hS] at hsm ⊢
      clear hS hX hn
      obtain ⟨k, f, l, z, d0, d1, d2, d3, s, t, x, c⟩ := n
      have hh := of_decide_eq_false hh
      unfold PNode.val PNode.ptrs at CA
      unfold PNode.ptrs at hp
      unfold PNode.val
      simp only at hh h0 hsm hff hp CA HX hxl hxs ⊢
      rcases hff with hf | hf
      · subst hf
        have HV : Hid (S = (!([d0, d1, d2, d3, s, t].any (badP 1)) && (decide (m = 0) && decide (c = 0)))) := Lib.hid (by
          rw [hsm, ← hp.1 rfl]
          show (if (1 : Int) = 1 then [d0, d1, d2, d3, s, t].all ptrOk && (decide (x = []) && decide (c = 0)) else _) = _
          rw [if_pos rfl]
          congr 2
          rw [Bool.eq_iff_iff, decide_eq_true_iff, decide_eq_true_iff, ← hxl]
          exact List.length_eq_zero_iff.symm)
        clear hsm hp hxs HX hxl h0
        have h0' : (k == 0) = false := by simp; omega
        have h0'' : decide (k = 0) = false := by simp; omega
        have e5 : ¬ k < 1 := by omega
        have e6 : ¬ 2 < k := by omega
        have e7 : ¬ l < 1 := by omega
        have e8 : ¬ 1000 < l := by omega
        have e9 : ¬ z < 0 := by omega
        have e10 : ¬ 6144 < z := by omega
        have HB : Hid (Below w.heap.size w (w.alloc (.cells #[.int .i64 k, .int .i64 1, .int .i64 l, .int .i64 z, .int .i64 d0, .int .i64 d1, .int .i64 d2, .int .i64 d3, .int .i64 s, .int .i64 t, .slice ao m cap, .int .i64 c] 26))) := Lib.hid ((Below.refl _ _).alloc (Nat.le_refl _) _)
        have HC : Hid (∀ j v, (#[.int .i64 k, .int .i64 1, .int .i64 l, .int .i64 z, .int .i64 d0, .int .i64 d1, .int .i64 d2, .int .i64 d3, .int .i64 s, .int .i64 t, .slice ao m cap, .int .i64 c] : Array Value)[j]? = some v → (w.alloc (.cells #[.int .i64 k, .int .i64 1, .int .i64 l, .int .i64 z, .int .i64 d0, .int .i64 d1, .int .i64 d2, .int .i64 d3, .int .i64 s, .int .i64 t, .slice ao m cap, .int .i64 c] 26)).cell? ⟨w.heap.size, j, none⟩ = some v) := Lib.hid (fun j v h => by rw [World.cell?_alloc_new]; exact h)
        clear hh
        go_enter Try.func22, Try.ntmps22
        go_wp2_with (go_at_call 25; refine (CA.out _).mono ?_; rintro e w2 ⟨g, rfl, h6, hb⟩; have H6 := Lib.hid h6; have HB2 := Lib.hid (HB.out.trans (hb.mono HB.out.size)); have HQ := Lib.hid (fun j v h => cell_later hb (HC.out j v h)); clear h6 hb)
        go_loopw [4] (fun iv wr => ∃ i : Nat, iv = .int .i64 (i : Int) ∧ i ≤ 6 ∧ Hid (Below w2.heap.size w2 wr) ∧ Hid (([d0, d1, d2, d3, s, t].take i).any (badP 1) = false)) (fun iv _ => 6 - (intOf iv).toNat)
        case atStart => exact ⟨0, rfl, Nat.zero_le _, Lib.hid (Below.refl _ _), Lib.hid rfl⟩
        case round =>
          obtain ⟨i, rfl, hi, HBR, HP⟩ := hrel
          have q1 := cell_later HBR.out (HQ.out 1 _ rfl)
          by_cases hlt : i < 6
          · obtain ⟨y, hy⟩ : ∃ y, [d0, d1, d2, d3, s, t][i]? = some y := ⟨_, List.getElem?_eq_getElem (by show i < 6; exact hlt)⟩
            have d := cell_later HBR.out (H6.out.2 i y hy)
            have i1 : (i : Int) < 6 := by omega
            have HT := Lib.hid (rany_take (p := badP 1) hy HP.out)
            have cD := fun W => Data09_any y W
            clear hy
            by_cases hy0 : y = 0
            · have e1 : (y != 0) = false := by simp [hy0]
              have e2 : decide (y = 0) = true := by simp [hy0]
              have HN := Lib.hid (HT.out.trans (show badP 1 y = false by unfold badP; rw [e2]; rfl))
              clear hy0 cD
              go_wp2_with fail
              go_roundw
              case rel => exact ⟨i + 1, by go_num, by omega, HBR, HN⟩
              case measure => simp [intOf]; omega
            · have e1 : (y != 0) = true := by simp [hy0]
              have e2 : decide (y = 0) = false := by simp [hy0]
              clear hy0
              cases hd : dataB y with
              | true =>
                rw [hd] at cD
                have HN := Lib.hid (HT.out.trans (show badP 1 y = false by unfold badP; rw [e2, hd]; rfl))
                clear hd
                go_wp2_with (go_at_call 37; refine (cD _).mono ?_; rintro e w3 ⟨rfl, rfl⟩)
                go_roundw
                case rel => exact ⟨i + 1, by go_num, by omega, HBR, HN⟩
                case measure => simp [intOf]; omega
              | false =>
                rw [hd] at cD
                have HN := Lib.hid (HT.out.trans (show badP 1 y = true by unfold badP; rw [e2, hd]; rfl))
                clear hd
                have HV2 := Lib.hid (rany_of_take HN.out)
                rw [HV2.out] at HV
                go_wp2_with (go_at_call 37; refine (cD _).mono ?_; rintro e w3 ⟨rfl, rfl⟩)
                go_ret
                exact ⟨by rw [HV.out]; rfl, HB2.out.trans (HBR.out.mono HB2.out.size)⟩
          · have hin : i = 6 := by omega
            subst hin
            have HNB : Hid ([d0, d1, d2, d3, s, t].any (badP 1) = false) := Lib.hid (by have h := HP.out; rwa [show [d0, d1, d2, d3, s, t].take 6 = [d0, d1, d2, d3, s, t] from rfl] at h)
            have q10 := cell_later HBR.out (HQ.out 10 _ rfl)
            have q11 := cell_later HBR.out (HQ.out 11 _ rfl)
            rw [HNB.out] at HV
            have HBF := Lib.hid (HB2.out.trans (HBR.out.mono HB2.out.size))
            by_cases hm0 : m = 0
            · have z1 : ((m : Int) == 0) = true := by simp [hm0]
              have z2 : decide (m = 0) = true := by simp [hm0]
              rw [z2] at HV
              by_cases hc0 : c = 0
              · have z3 : (c == 0) = true := by simp [hc0]
                have z4 : decide (c = 0) = true := by simp [hc0]
                rw [z4] at HV
                subst hm0
                subst hc0
                go_wp2_with fail
                go_ret
                exact ⟨by rw [HV.out]; rfl, HBF.out⟩
              · have z3 : (c == 0) = false := by simp [hc0]
                have z4 : decide (c = 0) = false := by simp [hc0]
                rw [z4] at HV
                subst hm0
                clear hc0
                go_wp2_with fail
                go_ret
                exact ⟨by rw [HV.out]; rfl, HBF.out⟩
            · have z1 : ((m : Int) == 0) = false := by simp; omega
              have z2 : decide (m = 0) = false := by simp [hm0]
              rw [z2] at HV
              go_wp2_with fail
              go_ret
              exact ⟨by rw [HV.out]; rfl, HBF.out⟩
      · subst hf
        have HV : Hid (S = (!([d0, d1, d2, d3, s, t].any (badP 2)) && (soundFrom [] 0 0 x && (decide (c = 0) || dataB c)))) := Lib.hid (by
          rw [hsm, ← hp.2 rfl, ← hxs, ← ptrOk_data]
          show (if (2 : Int) = 1 then _ else if (2 : Int) = 2 then [d0, d1, d2, d3, s, t].all (fun p => decide (p = 0)) && (soundXs x && ptrOk c) else _) = _
          rw [if_neg (by decide), if_pos rfl])
        clear hsm hp hxs hxl h0
        have h0' : (k == 0) = false := by simp; omega
        have h0'' : decide (k = 0) = false := by simp; omega
        have e5 : ¬ k < 1 := by omega
        have e6 : ¬ 2 < k := by omega
        have e7 : ¬ l < 1 := by omega
        have e8 : ¬ 1000 < l := by omega
        have e9 : ¬ z < 0 := by omega
        have e10 : ¬ 6144 < z := by omega
        have HB : Hid (Below w.heap.size w (w.alloc (.cells #[.int .i64 k, .int .i64 2, .int .i64 l, .int .i64 z, .int .i64 d0, .int .i64 d1, .int .i64 d2, .int .i64 d3, .int .i64 s, .int .i64 t, .slice ao m cap, .int .i64 c] 26))) := Lib.hid ((Below.refl _ _).alloc (Nat.le_refl _) _)
        have HC : Hid (∀ j v, (#[.int .i64 k, .int .i64 2, .int .i64 l, .int .i64 z, .int .i64 d0, .int .i64 d1, .int .i64 d2, .int .i64 d3, .int .i64 s, .int .i64 t, .slice ao m cap, .int .i64 c] : Array Value)[j]? = some v → (w.alloc (.cells #[.int .i64 k, .int .i64 2, .int .i64 l, .int .i64 z, .int .i64 d0, .int .i64 d1, .int .i64 d2, .int .i64 d3, .int .i64 s, .int .i64 t, .slice ao m cap, .int .i64 c] 26)).cell? ⟨w.heap.size, j, none⟩ = some v) := Lib.hid (fun j v h => by rw [World.cell?_alloc_new]; exact h)
        clear hh
        go_enter Try.func22, Try.ntmps22
        go_wp2_with (go_at_call 25; refine (CA.out _).mono ?_; rintro e w2 ⟨g, rfl, h6, hb⟩; have H6 := Lib.hid h6; have HB2 := Lib.hid (HB.out.trans (hb.mono HB.out.size)); have HQ := Lib.hid (fun j v h => cell_later hb (HC.out j v h)); clear h6 hb)
        go_loopw [4] (fun iv wr => ∃ i : Nat, iv = .int .i64 (i : Int) ∧ i ≤ 6 ∧ Hid (Below w2.heap.size w2 wr) ∧ Hid (([d0, d1, d2, d3, s, t].take i).any (badP 2) = false)) (fun iv _ => 6 - (intOf iv).toNat)
        case atStart => exact ⟨0, rfl, Nat.zero_le _, Lib.hid (Below.refl _ _), Lib.hid rfl⟩
        case round =>
          obtain ⟨i, rfl, hi, HBR, HP⟩ := hrel
          have q1 := cell_later HBR.out (HQ.out 1 _ rfl)
          by_cases hlt : i < 6
          · obtain ⟨y, hy⟩ : ∃ y, [d0, d1, d2, d3, s, t][i]? = some y := ⟨_, List.getElem?_eq_getElem (by show i < 6; exact hlt)⟩
            have d := cell_later HBR.out (H6.out.2 i y hy)
            have i1 : (i : Int) < 6 := by omega
            have HT := Lib.hid (rany_take (p := badP 2) hy HP.out)
            have cD := fun W => Data09_any y W
            clear hy
            by_cases hy0 : y = 0
            · have e1 : (y != 0) = false := by simp [hy0]
              have e2 : decide (y = 0) = true := by simp [hy0]
              have HN := Lib.hid (HT.out.trans (show badP 2 y = false by unfold badP; rw [e2]; rfl))
              clear hy0 cD
              go_wp2_with fail
              go_roundw
              case rel => exact ⟨i + 1, by go_num, by omega, HBR, HN⟩
              case measure => simp [intOf]; omega
            · have e1 : (y != 0) = true := by simp [hy0]
              have e2 : decide (y = 0) = false := by simp [hy0]
              clear hy0
              have HN := Lib.hid (HT.out.trans (show badP 2 y = true by unfold badP; rw [e2]; rfl))
              have HV2 := Lib.hid (rany_of_take HN.out)
              rw [HV2.out] at HV
              go_wp2_with fail
              go_ret
              exact ⟨by rw [HV.out]; rfl, HB2.out.trans (HBR.out.mono HB2.out.size)⟩
          · have hin : i = 6 := by omega
            subst hin
            have HNB : Hid ([d0, d1, d2, d3, s, t].any (badP 2) = false) := Lib.hid (by have h := HP.out; rwa [show [d0, d1, d2, d3, s, t].take 6 = [d0, d1, d2, d3, s, t] from rfl] at h)
            have q10 := cell_later HBR.out (HQ.out 10 _ rfl)
            have q11 := cell_later HBR.out (HQ.out 11 _ rfl)
            rw [HNB.out] at HV
            have HBF := Lib.hid (HB2.out.trans (HBR.out.mono HB2.out.size))
            have cX := HX.out
            cases hx : soundFrom [] 0 0 x with
            | false =>
              rw [hx] at HV cX
              have HX := Lib.hid cX
              clear hx cX
              go_wp2_with (go_at_call 38; refine (HX.out _ HBF.out).mono ?_; rintro e w3 ⟨rfl, hb3⟩; have B3 := Lib.hid (HBF.out.trans (hb3.mono HBF.out.size)); have q12 := cell_later hb3 q11; clear hb3)
              go_ret
              exact ⟨by rw [HV.out]; rfl, B3.out⟩
            | true =>
              rw [hx] at HV cX
              have HX := Lib.hid cX
              clear hx cX
              have cD := fun W => Data09_any c W
              by_cases hc0 : c = 0
              · have z3 : (c == 0) = true := by simp [hc0]
                have z4 : decide (c = 0) = true := by simp [hc0]
                rw [z4] at HV
                clear cD
                subst hc0
                go_wp2_with (go_at_call 38; refine (HX.out _ HBF.out).mono ?_; rintro e w3 ⟨rfl, hb3⟩; have B3 := Lib.hid (HBF.out.trans (hb3.mono HBF.out.size)); have q12 := cell_later hb3 q11; clear hb3)
                go_ret
                exact ⟨by rw [HV.out]; rfl, B3.out⟩
              · have z3 : (c == 0) = false := by simp [hc0]
                have z4 : decide (c = 0) = false := by simp [hc0]
                rw [z4] at HV
                clear hc0
                generalize dataB c = v at *
                go_wp2_with (first | (go_at_call 38; refine (HX.out _ HBF.out).mono ?_; rintro e w3 ⟨rfl, hb3⟩; have B3 := Lib.hid (HBF.out.trans (hb3.mono HBF.out.size)); have q12 := cell_later hb3 q11; clear hb3) | (go_at_call 37; refine (cD _).mono ?_; rintro e w4 ⟨rfl, rfl⟩))
                go_ret
                exact ⟨by rw [HV.out]; rfl, B3.out⟩

end Go.Proofs.Ytojfhhmjoledjaa
