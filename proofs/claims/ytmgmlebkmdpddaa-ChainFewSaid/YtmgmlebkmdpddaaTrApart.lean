/-
  Proved here: what the landed tree says of lists of numbers (apart): each is 0 or a data block, and none of these is there twice.
  The conditions stand at each theorem.
-/
import Derived.Test.YtmgmlebkmdpddaaTrConcat
import Derived.Test.YtmgmlebkmdpddaaTree
import Derived.Maps.OwnSet
import Derived.Deep.QuietTactic
import Derived.BigQuiet
namespace Go.Proofs.Ytmgmlebkmdpddaa
open Go.RowKit
set_option linter.unusedVariables false
set_option linter.unusedSimpArgs false

theorem apart_snoc (l : List Int) (x : Int) : apartL (l ++ [x]) = (apartL l && (decide (x = 0) || (decide (59 ≤ x ∧ x ≤ 479) && !decide (x ∈ l)))) := by
  by_cases hx : x = 0
  · subst hx
    have := apart_zeros (a := l) 1
    rw [show List.replicate 1 (0 : Int) = [0] from rfl] at this
    rw [this]
    simp
  · have e : nzL [x] = [x] := by unfold nzL nzB; simp [hx]
    have hm : x ∈ nzL l ↔ x ∈ l := by
      unfold nzL
      rw [List.mem_filter]
      unfold nzB
      simp [hx]
    unfold apartL
    rw [nz_append, e, List.all_append, decide_eq_false hx, Bool.false_or, Bool.eq_iff_iff]
    simp only [Bool.and_eq_true, decide_eq_true_eq, List.all_cons, List.all_nil, and_true, Bool.not_eq_true', decide_eq_false_iff_not]
    rw [List.nodup_append]
    have hok : okP x = true ↔ 59 ≤ x ∧ x ≤ 479 := by unfold okP; simp [hx]
    rw [hok]
    constructor
    · rintro ⟨⟨h1, h2⟩, h3, h4, h5⟩
      exact ⟨⟨h1, h3⟩, h2, fun hl => h5 x (hm.2 hl) x (by simp) rfl⟩
    · rintro ⟨⟨h1, h3⟩, h2, h4⟩
      refine ⟨⟨h1, h2⟩, h3, by simp, fun a ha b hb e => ?_⟩
      rw [List.mem_singleton] at hb
      rw [hb] at e
      rw [e] at ha
      exact h4 (hm.1 ha)

theorem apart_take {l : List Int} {i : Nat} (h : apartL (l.take i) = false) : apartL l = false := by
  rw [← Bool.not_eq_true] at h ⊢
  intro hl
  rw [← List.take_append_drop i l] at hl
  exact h (apart_append hl).1

theorem IArg.grown {w w' : World} {b off len cap k : Nat} {zs : List Int} (h : IArg w (some ⟨b, off, none⟩) len cap zs) (hg : w.grownBy w' (some k)) (hb : b ≠ k) : IArg w' (some ⟨b, off, none⟩) len cap zs := by
  refine ⟨⟨h.1.1, h.1.2.1, ?_⟩, h.2⟩
  rcases h.1.2.2 with h0 | ⟨b', o', he, hc⟩
  · exact Or.inl h0
  · simp only [Option.some.injEq, Addr.mk.injEq, and_true] at he
    obtain ⟨rfl, rfl⟩ := he
    exact Or.inr ⟨b, off, rfl, fun j x hj => hg.cell (hc j x hj) (fun e => hb (by simpa using e))⟩

/-- Block b is a map that says of each number how often it was seen. -/
def SeenIs (w : World) (b n : Nat) (f : Int → Int) : Prop :=
  ∃ D : DataW Unit, w.ownsMap Try.prog 3 (plainElem Try.prog 3) b n D ∧ ∀ p, D.atKey (.int .i64 p) (.lit (.int .i64 0)) = .lit (.int .i64 (f p))

theorem SeenIs.kept {w w' : World} {b n : Nat} {f : Int → Int} (h : SeenIs w b n f) (hb : Below w.heap.size w w') : SeenIs w' b n f := by
  obtain ⟨D, h1, h2⟩ := h
  exact ⟨D, h1.kept (row := none) ⟨hb.os, hb.tape, hb.output, hb.size, fun k hk _ => hb.block k hk⟩ (by simp), h2⟩
theorem SeenIs.made (w : World) : SeenIs (w.alloc (.map #[] 0)) w.heap.size 0 (fun _ => 0) :=
  ⟨_, World.ownsMap_made _ _ _ _, fun p => rfl⟩
theorem SeenIs.lt {w : World} {b n : Nat} {f : Int → Int} (h : SeenIs w b n f) : b < w.heap.size := h.choose_spec.1.lt
theorem SeenIs.congr {w : World} {b n : Nat} {f g : Int → Int} (h : SeenIs w b n f) (e : ∀ p, g p = f p) : SeenIs w b n g := by
  obtain ⟨D, h1, h2⟩ := h
  exact ⟨D, h1, fun p => by rw [e]; exact h2 p⟩

theorem seenKeyed : Maps.Keyed Try.prog 3 := Maps.int_keyed Try.underlying3
theorem seen_zero (w : World) : (zeroValue 3).run Try.prog w = .ok (.int .i64 0) w := by kernel_rfl
theorem wf64 {p : Int} (h : I64 p) : (Lit.int .i64 p).wf = true := by
  unfold I64 at h
  simp [Lit.wf, IntKind.min, IntKind.max, IntKind.bits, IntKind.signed]
  omega
theorem key_i64 {p : Int} (h : I64 p) : keyOf Try.prog 3 (.int .i64 p) = some (.int .i64 p) := Maps.keyOf_int_mk Try.underlying3 (wf64 h)

section
variable {ops : Array Oper} {rest : List Oper} {o : Oper} {a : Act} {w : World} {Q : Exit → Act → World → Prop}

/-- How often was a number seen? -/
theorem wp_seen_look (hgd : o.guard = none) (m x : Operand) (hop : o.op = Op.lookup 106 m x false) (b n : Nat) (f : Int → Int) (hm : a.eval m = .map (some b)) (h : SeenIs w b n f)
    (p : Int) (hx : a.eval x = .int .i64 p) (hp : I64 p) (c : Int) (hc : f p = c)
    (hK : wpList Try.prog ops Q rest (a.put o.dst (.int .i64 c)) w) : wpList Try.prog ops Q (o :: rest) a w := by
  obtain ⟨D, h1, h2⟩ := h
  refine wpList_lookup_own_int w hgd m x _ hop _ _ .i64 seenKeyed Try.underlying106 Try.underlying3 (seen_zero w) b n D hm h1 (.int .i64 p) (.int .i64 p) hx (key_i64 hp) (fun c' hat _ => ?_)
  rw [h2 p] at hat
  simp only [DataW.lit.injEq, Lit.int.injEq, true_and] at hat
  rw [← hat, hc]
  exact hK

/-- A number is seen so often. -/
theorem wp_seen_put (hgd : o.guard = none) (m x v : Operand) (hop : o.op = Op.mapUpdate 106 m x v) (base b n : Nat) (f : Int → Int) (hm : a.eval m = .map (some b)) (h : SeenIs w b n f)
    (p : Int) (hx : a.eval x = .int .i64 p) (hp : I64 p) (c : Int) (hv : a.eval v = .int .i64 c) (hc : I64 c) (hn : n ≤ 100000) (hb : base ≤ b)
    (hK : ∀ w', SeenIs w' b (n + 1) (fun q => if q = p then c else f q) → Below base w w' → w.grownBy w' (some b) → wpList Try.prog ops Q rest (a.put o.dst undef) w') : wpList Try.prog ops Q (o :: rest) a w := by
  have hlt := h.lt
  obtain ⟨D, h1, h2⟩ := h
  refine wpList_mapUpdate_own w hgd m x v _ hop _ _ seenKeyed Try.underlying106 (plainElem Try.prog 3) b n D hm h1 (by unfold maxLen; omega) (.int .i64 p) _ (.int .i64 p) hx hv (key_i64 hp) (.lit (.int .i64 c)) [] (plainElem_int Try.underlying3 (wf64 hc)) (fun w' h3 h4 => ?_)
  refine hK w' ⟨_, h3, fun q => ?_⟩ ((Below.refl base w).grown h4 (by omega) (fun j hj => by cases hj; exact hb)) h4
  by_cases e : q = p
  · subst e
    show _ = DataW.lit (.int .i64 (if q = q then c else f q))
    rw [if_pos rfl]
    exact Maps.atKey_put_same h1.isMap (show WideAt.IsKeyLit (.int .i64 q) from trivial) _ _
  · have hne : (Lit.int .i64 q) ≠ Lit.int .i64 p := fun he => e (by cases he; rfl)
    show _ = DataW.lit (.int .i64 (if q = p then c else f q))
    rw [if_neg e, Maps.atKey_put_other hne]
    exact h2 q
end


set_option maxRecDepth 100000 in
set_option maxHeartbeats 6400000 in
theorem apart_any (b off n cap : Nat) (ls : List (List Int)) (w : World) (hn : ls.length = n) (hL : ListsIn w b off ls) (h100 : lenL ls ≤ 10000) (hn100 : n ≤ 100) : Calls Try.prog 45 #[.slice (some ⟨b, off, none⟩) n cap] w fun e w' => e = .returned (.bool (apartL ls.flatten)) ∧ Below w.heap.size w w' := by
  have HL := Lib.hid hL
  have H100 := Lib.hid h100
  have hm : (Instr.makeMap 106 none).run Try.prog w = .ok (.map (some w.heap.size)) (w.alloc (.map #[] 0)) := run_makeMap _ _
  have HZ : Hid (∀ z ∈ ls.flatten, I64 z) := Lib.hid (fun z hz => by
    obtain ⟨l, hl, hzl⟩ := List.mem_flatten.1 hz
    obtain ⟨i, hi, rfl⟩ := List.mem_iff_getElem.1 hl
    obtain ⟨a, l', c, _, d2⟩ := hL i _ (List.getElem?_eq_getElem hi)
    exact d2.2.1 z hzl)
  have HFL : Hid (ls.flatten.length = lenL ls) := Lib.hid (by unfold lenL; rw [List.length_flatten])
  have cC := Concat_any b off n cap ls (w.alloc (.map #[] 0)) hn (hL.later ((Below.refl _ _).alloc (Nat.le_refl _) _)) h100 hn100
  obtain ⟨T, hT⟩ : ∃ T, lenL ls = T := ⟨_, rfl⟩
  obtain ⟨F, hF⟩ : ∃ F, ls.flatten = F := ⟨_, rfl⟩
  rw [hT] at cC HFL H100
  rw [hF] at cC HFL HZ
  rw [hF]
  clear hL h100 hT hF HL
  go_enter Try.func45, Try.ntmps45
  go_wp2_with (go_at_call 55; refine cC.mono ?_; rintro e w2 ⟨v, rfl, ho, hb⟩; obtain ⟨ra, rc, rfl⟩ := owns_shape_r ho; have HO := Lib.hid ho; have HB := Lib.hid hb; clear ho hb)
  have HF1 : Hid (IArg w2 ra T rc F) := Lib.hid (by
    obtain ⟨ao, c, h1, h2, _⟩ := fresh_of_ints HO.out HZ.out (by have := H100.out; omega)
    rw [HFL.out] at h1 h2
    simp only [Value.slice.injEq, true_and] at h1
    obtain ⟨rfl, rfl⟩ := h1
    exact h2)
  have HRB : Hid (∀ a, ra = some a → a.block ≠ w.heap.size) := Lib.hid (fun a ha => by
    rcases HO.out.2 with ⟨hv, _⟩ | ⟨g, c, cur, hv, hg, _⟩
    · rw [ha] at hv; cases hv
    · rw [ha] at hv
      simp only [Value.slice.injEq, Option.some.injEq] at hv
      rw [hv.1]
      simp at hg
      show g ≠ _
      omega)
  have HS0 : Hid (SeenIs w2 w.heap.size 0 (fun p => if p ≠ 0 ∧ p ∈ F.take 0 then 1 else 0)) := Lib.hid (((SeenIs.made w).kept HB.out).congr (fun p => by simp))
  have HB0 : Hid (Below w.heap.size w w2) := Lib.hid (((Below.refl _ _).alloc (Nat.le_refl _) _).trans (HB.out.mono (by simp)))
  have hT := H100.out
  go_loopw [10] (fun iv wr => ∃ i : Nat, iv = .int .i64 (i : Int) ∧ i ≤ T ∧ Hid (∃ k, k ≤ i ∧ SeenIs wr w.heap.size k (fun p => if p ≠ 0 ∧ p ∈ F.take i then 1 else 0)) ∧ Hid (Below w.heap.size w wr) ∧ Hid (IArg wr ra T rc F) ∧ Hid (apartL (F.take i) = true)) (fun iv _ => T - (intOf iv).toNat)
  case atStart => exact ⟨0, rfl, Nat.zero_le _, Lib.hid ⟨0, Nat.le_refl _, HS0.out⟩, HB0, HF1, Lib.hid rfl⟩
  case round =>
    obtain ⟨i, rfl, hi, HS, HBR, HA, HP⟩ := hrel
    by_cases hlt : i < T
    · obtain ⟨fb, fo, x, rfl, hx, d1, hI⟩ := HA.out.at hlt
      have HX := Lib.hid hx
      have HI := Lib.hid hI
      have i1 : (i : Int) < (T : Int) := by omega
      have HSN : Hid (F.take (i + 1) = F.take i ++ [x]) := Lib.hid (by rw [List.take_add_one, hx]; rfl)
      have HAP := Lib.hid (apart_snoc (F.take i) x)
      clear hx hI
      by_cases h0 : x = 0
      · subst h0
        have HP2 : Hid (apartL (F.take (i + 1)) = true) := Lib.hid (by rw [HSN.out, HAP.out, HP.out]; rfl)
        have HS2 : Hid (∃ k, k ≤ i + 1 ∧ SeenIs wr w.heap.size k (fun p => if p ≠ 0 ∧ p ∈ F.take (i + 1) then 1 else 0)) := Lib.hid (by
          obtain ⟨k, hk, hs⟩ := HS.out
          refine ⟨k, by omega, hs.congr (fun p => ?_)⟩
          rw [HSN.out]
          by_cases hp : p = 0
          · simp [hp]
          · simp [hp])
        go_wp2_with fail
        go_roundw
        case rel => exact ⟨i + 1, by go_num, by omega, HS2, HBR, HA, HP2⟩
        case measure => simp [intOf]; omega
      · have b0 : (x == 0) = false := by simpa using h0
        obtain ⟨k, hk, hs⟩ := HS.out
        have HSS := Lib.hid hs
        obtain ⟨c, hc⟩ : ∃ c, (fun p => if p ≠ 0 ∧ p ∈ F.take i then (1 : Int) else 0) x = c := ⟨_, rfl⟩
        have HC := Lib.hid hc
        clear hs
        have hc01 : c = if x ∈ F.take i then 1 else 0 := by rw [← hc]; simp [h0]
        have hci : 0 ≤ c ∧ c ≤ 1 := by rw [hc01]; split <;> omega
        have c1 : wrap64 (c + 1) = c + 1 := by unfold wrap64; omega
        have HCI : Hid (I64 (c + 1)) := Lib.hid (by unfold I64; omega)
        have HPUT : Hid ((fun q => if q = x then c + 1 else (fun p => if p ≠ 0 ∧ p ∈ F.take i then (1 : Int) else 0) q) x = c + 1) := Lib.hid (by simp)
        have HBAD : Hid (apartL (F.take i ++ [x]) = false → apartL F = false) := Lib.hid (fun h => apart_take (i := i + 1) (by rw [HSN.out]; exact h))
        clear hc
        by_cases hm : x ∈ F.take i
        · rw [if_pos hm] at hc01
          subst hc01
          have HFA : Hid (apartL F = false) := Lib.hid (HBAD.out (by rw [HAP.out, HP.out, decide_eq_false h0, decide_eq_true hm]; simp))
          clear hm hci h0
          go_wp2_with (first | (at_lookup; refine wp_seen_look rfl (.tmp 16) (.tmp 17) rfl w.heap.size k _ rfl HSS.out x rfl HI.out 1 HC.out ?_) | (at_mapUpdate; refine wp_seen_put rfl (.tmp 16) (.tmp 17) (.tmp 19) rfl w.heap.size w.heap.size k _ rfl HSS.out x rfl HI.out _ rfl HCI.out (by omega) (Nat.le_refl _) ?_; intro w5 h5 b5 g5; have H5 := Lib.hid h5; have B5 := Lib.hid b5; have G5 := Lib.hid g5; clear h5 b5 g5) | (at_lookup; refine wp_seen_look rfl (.tmp 20) (.tmp 21) rfl w.heap.size (k + 1) _ rfl H5.out x rfl HI.out _ HPUT.out ?_))
          go_ret
          exact ⟨by rw [HFA.out]; rfl, HBR.out.trans B5.out⟩
        · rw [if_neg hm] at hc01
          subst hc01
          by_cases hlo : x < 59
          · have HFA : Hid (apartL F = false) := Lib.hid (HBAD.out (by rw [HAP.out, HP.out, decide_eq_false h0, decide_eq_false (fun h => by omega)]; rfl))
            clear hm hci h0
            go_wp2_with (first | (at_lookup; refine wp_seen_look rfl (.tmp 16) (.tmp 17) rfl w.heap.size k _ rfl HSS.out x rfl HI.out 0 HC.out ?_) | (at_mapUpdate; refine wp_seen_put rfl (.tmp 16) (.tmp 17) (.tmp 19) rfl w.heap.size w.heap.size k _ rfl HSS.out x rfl HI.out _ rfl HCI.out (by omega) (Nat.le_refl _) ?_; intro w5 h5 b5 g5; have H5 := Lib.hid h5; have B5 := Lib.hid b5; have G5 := Lib.hid g5; clear h5 b5 g5) | (at_lookup; refine wp_seen_look rfl (.tmp 20) (.tmp 21) rfl w.heap.size (k + 1) _ rfl H5.out x rfl HI.out _ HPUT.out ?_))
            go_ret
            exact ⟨by rw [HFA.out]; rfl, HBR.out.trans B5.out⟩
          · by_cases hhi : 480 ≤ x
            · have HFA : Hid (apartL F = false) := Lib.hid (HBAD.out (by rw [HAP.out, HP.out, decide_eq_false h0, decide_eq_false (fun h => by omega)]; rfl))
              clear hm hci h0
              go_wp2_with (first | (at_lookup; refine wp_seen_look rfl (.tmp 16) (.tmp 17) rfl w.heap.size k _ rfl HSS.out x rfl HI.out 0 HC.out ?_) | (at_mapUpdate; refine wp_seen_put rfl (.tmp 16) (.tmp 17) (.tmp 19) rfl w.heap.size w.heap.size k _ rfl HSS.out x rfl HI.out _ rfl HCI.out (by omega) (Nat.le_refl _) ?_; intro w5 h5 b5 g5; have H5 := Lib.hid h5; have B5 := Lib.hid b5; have G5 := Lib.hid g5; clear h5 b5 g5) | (at_lookup; refine wp_seen_look rfl (.tmp 20) (.tmp 21) rfl w.heap.size (k + 1) _ rfl H5.out x rfl HI.out _ HPUT.out ?_))
              go_ret
              exact ⟨by rw [HFA.out]; rfl, HBR.out.trans B5.out⟩
            · have HP2 : Hid (apartL (F.take (i + 1)) = true) := Lib.hid (by rw [HSN.out, HAP.out, HP.out, decide_eq_false hm, decide_eq_true (show 59 ≤ x ∧ x ≤ 479 by omega)]; simp)
              have HM := Lib.hid h0
              clear hm hci h0
              go_wp2_with (first | (at_lookup; refine wp_seen_look rfl (.tmp 16) (.tmp 17) rfl w.heap.size k _ rfl HSS.out x rfl HI.out 0 HC.out ?_) | (at_mapUpdate; refine wp_seen_put rfl (.tmp 16) (.tmp 17) (.tmp 19) rfl w.heap.size w.heap.size k _ rfl HSS.out x rfl HI.out _ rfl HCI.out (by omega) (Nat.le_refl _) ?_; intro w5 h5 b5 g5; have H5 := Lib.hid h5; have B5 := Lib.hid b5; have G5 := Lib.hid g5; clear h5 b5 g5) | (at_lookup; refine wp_seen_look rfl (.tmp 20) (.tmp 21) rfl w.heap.size (k + 1) _ rfl H5.out x rfl HI.out _ HPUT.out ?_))
              have HS2 : Hid (∃ k, k ≤ i + 1 ∧ SeenIs w5 w.heap.size k (fun p => if p ≠ 0 ∧ p ∈ F.take (i + 1) then 1 else 0)) := Lib.hid ⟨k + 1, by omega, H5.out.congr (fun p => by
                rw [HSN.out]
                by_cases hp : p = x
                · simp [hp, HM.out]
                · by_cases hp0 : p = 0
                  · simp [hp, hp0]
                    exact fun e => HM.out e.symm
                  · simp [hp, hp0])⟩
              go_roundw
              case rel => exact ⟨i + 1, by go_num, by omega, HS2, Lib.hid (HBR.out.trans B5.out), Lib.hid (HA.out.grown G5.out (HRB.out _ rfl)), HP2⟩
              case measure => simp [intOf]; omega
    · obtain rfl : i = T := by omega
      have HT : Hid (apartL F = true) := Lib.hid (by have := HP.out; rwa [← HFL.out, List.take_length] at this)
      go_wp2_with fail
      go_ret
      exact ⟨by rw [HT.out]; rfl, HBR.out⟩

end Go.Proofs.Ytmgmlebkmdpddaa