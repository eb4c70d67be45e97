/-
  Proved here: what the landed tree says of lists of numbers (apart): each is 0 or a data block, and none of these is there twice. The conditions stand at each theorem. Proved here: what the landed tree's Need answers. The conditions stand at each theorem. Proved here: how the landed tree writes a page into a block (write), and what it reads out of one (read). The conditions stand at each theorem. Proved here: the blocks that the landed tree lays a chart's pages into (blocks). The conditions stand at each theorem. Proved here: what the landed code of package field answers: Sealed. The conditions stand at each theorem. Proved here: how the landed tree reads a page out of the block that it lies in (fetch), where that block is there and is one of pointers. The conditions stand at each theorem. Proved here: how the landed tree reads a page out of the block that it lies in (fetch). The conditions stand at each theorem.
-/
import Derived.Test.YtmcblhgpcgnaoaaGreatDoorNc8
import Derived.Test.YtmcblhgpcgnaoaaGreatDoorNc9
import Derived.Maps.OwnSet
import Derived.Deep.QuietTactic
import Derived.BigQuiet
import Derived.Test.YtmcblhgpcgnaoaaGreatDoorNc0
import Derived.Test.YtmcblhgpcgnaoaaGreatDoorNc2
import Derived.Test.YtmcblhgpcgnaoaaGreatDoorNc1
import Derived.Laws.ResultCell
import Derived.Deep.RegionWith
import Derived.Deep.RegionHeld3
namespace Go.Proofs.YtmcblhgpcgnaoaaGreatDoor
open Go.RowKit
set_option linter.unusedVariables false
set_option linter.unusedSimpArgs false

theorem apart_snoc (l : List Int) (x : Int) : apartL (l ++ [x]) = (apartL l && (decide (x = 0) || (decide (59 ≤ x ∧ x ≤ 479) && !decide (x ∈ l)))) := by
  by_cases hx : x = 0
  · subst hx
    have := apart_zeros (a := l) 1
    rw [show List.replicate 1 (0 : Int) = [0] from rfl] at this
    rw [this]
    simp
  · have e : nzL [x] = [x] := by unfold nzL nzB; simp [hx]
    have hm : x ∈ nzL l ↔ x ∈ l := by
      unfold nzL
      rw [List.mem_filter]
      unfold nzB
      simp [hx]
    unfold apartL
    rw [nz_append, e, List.all_append, decide_eq_false hx, Bool.false_or, Bool.eq_iff_iff]
    simp only [Bool.and_eq_true, decide_eq_true_eq, List.all_cons, List.all_nil, and_true, Bool.not_eq_true', decide_eq_false_iff_not]
    rw [List.nodup_append]
    have hok : okP x = true ↔ 59 ≤ x ∧ x ≤ 479 := by unfold okP; simp [hx]
    rw [hok]
    constructor
    · rintro ⟨⟨h1, h2⟩, h3, h4, h5⟩
      exact ⟨⟨h1, h3⟩, h2, fun hl => h5 x (hm.2 hl) x (by simp) rfl⟩
    · rintro ⟨⟨h1, h3⟩, h2, h4⟩
      refine ⟨⟨h1, h2⟩, h3, by simp, fun a ha b hb e => ?_⟩
      rw [List.mem_singleton] at hb
      rw [hb] at e
      rw [e] at ha
      exact h4 (hm.1 ha)

theorem apart_take {l : List Int} {i : Nat} (h : apartL (l.take i) = false) : apartL l = false := by
  rw [← Bool.not_eq_true] at h ⊢
  intro hl
  rw [← List.take_append_drop i l] at hl
  exact h (apart_append hl).1

theorem IArg.grown {w w' : World} {b off len cap k : Nat} {zs : List Int} (h : IArg w (some ⟨b, off, none⟩) len cap zs) (hg : w.grownBy w' (some k)) (hb : b ≠ k) : IArg w' (some ⟨b, off, none⟩) len cap zs := by
  refine ⟨⟨h.1.1, h.1.2.1, ?_⟩, h.2⟩
  rcases h.1.2.2 with h0 | ⟨b', o', he, hc⟩
  · exact Or.inl h0
  · simp only [Option.some.injEq, Addr.mk.injEq, and_true] at he
    obtain ⟨rfl, rfl⟩ := he
    exact Or.inr ⟨b, off, rfl, fun j x hj => hg.cell (hc j x hj) (fun e => hb (by simpa using e))⟩

/-- Block b is a map that says of each number how often it was seen. -/
def SeenIs (w : World) (b n : Nat) (f : Int → Int) : Prop :=
  ∃ D : DataW Unit, w.ownsMap Tryz.prog 3 (plainElem Tryz.prog 3) b n D ∧ ∀ p, D.atKey (.int .i64 p) (.lit (.int .i64 0)) = .lit (.int .i64 (f p))

theorem SeenIs.kept {w w' : World} {b n : Nat} {f : Int → Int} (h : SeenIs w b n f) (hb : Below w.heap.size w w') : SeenIs w' b n f := by
  obtain ⟨D, h1, h2⟩ := h
  exact ⟨D, h1.kept (row := none) ⟨hb.os, hb.tape, hb.output, hb.size, fun k hk _ => hb.block k hk⟩ (by simp), h2⟩
theorem SeenIs.made (w : World) : SeenIs (w.alloc (.map #[] 0)) w.heap.size 0 (fun _ => 0) :=
  ⟨_, World.ownsMap_made _ _ _ _, fun p => rfl⟩
theorem SeenIs.lt {w : World} {b n : Nat} {f : Int → Int} (h : SeenIs w b n f) : b < w.heap.size := h.choose_spec.1.lt
theorem SeenIs.congr {w : World} {b n : Nat} {f g : Int → Int} (h : SeenIs w b n f) (e : ∀ p, g p = f p) : SeenIs w b n g := by
  obtain ⟨D, h1, h2⟩ := h
  exact ⟨D, h1, fun p => by rw [e]; exact h2 p⟩

theorem seenKeyed : Maps.Keyed Tryz.prog 3 := Maps.int_keyed Tryz.underlying3
theorem seen_zero (w : World) : (zeroValue 3).run Tryz.prog w = .ok (.int .i64 0) w := by kernel_rfl
theorem wf64 {p : Int} (h : I64 p) : (Lit.int .i64 p).wf = true := by
  unfold I64 at h
  simp [Lit.wf, IntKind.min, IntKind.max, IntKind.bits, IntKind.signed]
  omega
theorem key_i64 {p : Int} (h : I64 p) : keyOf Tryz.prog 3 (.int .i64 p) = some (.int .i64 p) := Maps.keyOf_int_mk Tryz.underlying3 (wf64 h)

section
variable {ops : Array Oper} {rest : List Oper} {o : Oper} {a : Act} {w : World} {Q : Exit → Act → World → Prop}

/-- How often was a number seen? -/
theorem wp_seen_look (hgd : o.guard = none) (m x : Operand) (hop : o.op = Op.lookup 291 m x false) (b n : Nat) (f : Int → Int) (hm : a.eval m = .map (some b)) (h : SeenIs w b n f)
    (p : Int) (hx : a.eval x = .int .i64 p) (hp : I64 p) (c : Int) (hc : f p = c)
    (hK : wpList Tryz.prog ops Q rest (a.put o.dst (.int .i64 c)) w) : wpList Tryz.prog ops Q (o :: rest) a w := by
  obtain ⟨D, h1, h2⟩ := h
  refine wpList_lookup_own_int w hgd m x _ hop _ _ .i64 seenKeyed Tryz.underlying291 Tryz.underlying3 (seen_zero w) b n D hm h1 (.int .i64 p) (.int .i64 p) hx (key_i64 hp) (fun c' hat _ => ?_)
  rw [h2 p] at hat
  simp only [DataW.lit.injEq, Lit.int.injEq, true_and] at hat
  rw [← hat, hc]
  exact hK

/-- A number is seen so often. -/
theorem wp_seen_put (hgd : o.guard = none) (m x v : Operand) (hop : o.op = Op.mapUpdate 291 m x v) (base b n : Nat) (f : Int → Int) (hm : a.eval m = .map (some b)) (h : SeenIs w b n f)
    (p : Int) (hx : a.eval x = .int .i64 p) (hp : I64 p) (c : Int) (hv : a.eval v = .int .i64 c) (hc : I64 c) (hn : n ≤ 100000) (hb : base ≤ b)
    (hK : ∀ w', SeenIs w' b (n + 1) (fun q => if q = p then c else f q) → Below base w w' → w.grownBy w' (some b) → wpList Tryz.prog ops Q rest (a.put o.dst undef) w') : wpList Tryz.prog ops Q (o :: rest) a w := by
  have hlt := h.lt
  obtain ⟨D, h1, h2⟩ := h
  refine wpList_mapUpdate_own w hgd m x v _ hop _ _ seenKeyed Tryz.underlying291 (plainElem Tryz.prog 3) b n D hm h1 (by unfold maxLen; omega) (.int .i64 p) _ (.int .i64 p) hx hv (key_i64 hp) (.lit (.int .i64 c)) [] (plainElem_int Tryz.underlying3 (wf64 hc)) (fun w' h3 h4 => ?_)
  refine hK w' ⟨_, h3, fun q => ?_⟩ ((Below.refl base w).grown h4 (by omega) (fun j hj => by cases hj; exact hb)) h4
  by_cases e : q = p
  · subst e
    show _ = DataW.lit (.int .i64 (if q = q then c else f q))
    rw [if_pos rfl]
    exact Maps.atKey_put_same h1.isMap (show WideAt.IsKeyLit (.int .i64 q) from trivial) _ _
  · have hne : (Lit.int .i64 q) ≠ Lit.int .i64 p := fun he => e (by cases he; rfl)
    show _ = DataW.lit (.int .i64 (if q = p then c else f q))
    rw [if_neg e, Maps.atKey_put_other hne]
    exact h2 q
end


set_option maxRecDepth 100000 in
set_option maxHeartbeats 6400000 in
theorem apart_any (b off n cap : Nat) (ls : List (List Int)) (w : World) (hn : ls.length = n) (hL : ListsIn w b off ls) (h100 : lenL ls ≤ 10000) (hn100 : n ≤ 100) : Calls Tryz.prog 176 #[.slice (some ⟨b, off, none⟩) n cap] w fun e w' => e = .returned (.bool (apartL ls.flatten)) ∧ Below w.heap.size w w' := by
  have HL := Lib.hid hL
  have H100 := Lib.hid h100
  have hm : (Instr.makeMap 291 none).run Tryz.prog w = .ok (.map (some w.heap.size)) (w.alloc (.map #[] 0)) := run_makeMap _ _
  have HZ : Hid (∀ z ∈ ls.flatten, I64 z) := Lib.hid (fun z hz => by
    obtain ⟨l, hl, hzl⟩ := List.mem_flatten.1 hz
    obtain ⟨i, hi, rfl⟩ := List.mem_iff_getElem.1 hl
    obtain ⟨a, l', c, _, d2⟩ := hL i _ (List.getElem?_eq_getElem hi)
    exact d2.2.1 z hzl)
  have HFL : Hid (ls.flatten.length = lenL ls) := Lib.hid (by unfold lenL; rw [List.length_flatten])
  have cC := Concat_any b off n cap ls (w.alloc (.map #[] 0)) hn (hL.later ((Below.refl _ _).alloc (Nat.le_refl _) _)) h100 hn100
  obtain ⟨T, hT⟩ : ∃ T, lenL ls = T := ⟨_, rfl⟩
  obtain ⟨F, hF⟩ : ∃ F, ls.flatten = F := ⟨_, rfl⟩
  rw [hT] at cC HFL H100
  rw [hF] at cC HFL HZ
  rw [hF]
  clear hL h100 hT hF HL
  go_enter Tryz.func176, Tryz.ntmps176
  go_wp2_with (go_at_call 136; refine cC.mono ?_; rintro e w2 ⟨v, rfl, ho, hb⟩; obtain ⟨ra, rc, rfl⟩ := owns_shape_r ho; have HO := Lib.hid ho; have HB := Lib.hid hb; clear ho hb)
  have HF1 : Hid (IArg w2 ra T rc F) := Lib.hid (by
    obtain ⟨ao, c, h1, h2, _⟩ := fresh_of_ints HO.out HZ.out (by have := H100.out; omega)
    rw [HFL.out] at h1 h2
    simp only [Value.slice.injEq, true_and] at h1
    obtain ⟨rfl, rfl⟩ := h1
    exact h2)
  have HRB : Hid (∀ a, ra = some a → a.block ≠ w.heap.size) := Lib.hid (fun a ha => by
    rcases HO.out.2 with ⟨hv, _⟩ | ⟨g, c, cur, hv, hg, _⟩
    · rw [ha] at hv; cases hv
    · rw [ha] at hv
      simp only [Value.slice.injEq, Option.some.injEq] at hv
      rw [hv.1]
      simp at hg
      show g ≠ _
      omega)
  have HS0 : Hid (SeenIs w2 w.heap.size 0 (fun p => if p ≠ 0 ∧ p ∈ F.take 0 then 1 else 0)) := Lib.hid (((SeenIs.made w).kept HB.out).congr (fun p => by simp))
  have HB0 : Hid (Below w.heap.size w w2) := Lib.hid (((Below.refl _ _).alloc (Nat.le_refl _) _).trans (HB.out.mono (by simp)))
  have hT := H100.out
  go_loopw [10] (fun iv wr => ∃ i : Nat, iv = .int .i64 (i : Int) ∧ i ≤ T ∧ Hid (∃ k, k ≤ i ∧ SeenIs wr w.heap.size k (fun p => if p ≠ 0 ∧ p ∈ F.take i then 1 else 0)) ∧ Hid (Below w.heap.size w wr) ∧ Hid (IArg wr ra T rc F) ∧ Hid (apartL (F.take i) = true)) (fun iv _ => T - (intOf iv).toNat)
  case atStart => exact ⟨0, rfl, Nat.zero_le _, Lib.hid ⟨0, Nat.le_refl _, HS0.out⟩, HB0, HF1, Lib.hid rfl⟩
  case round =>
    obtain ⟨i, rfl, hi, HS, HBR, HA, HP⟩ := hrel
    by_cases hlt : i < T
    · obtain ⟨fb, fo, x, rfl, hx, d1, hI⟩ := HA.out.at hlt
      have HX := Lib.hid hx
      have HI := Lib.hid hI
      have i1 : (i : Int) < (T : Int) := by omega
      have HSN : Hid (F.take (i + 1) = F.take i ++ [x]) := Lib.hid (by rw [List.take_add_one, hx]; rfl)
      have HAP := Lib.hid (apart_snoc (F.take i) x)
      clear hx hI
      by_cases h0 : x = 0
      · subst h0
        have HP2 : Hid (apartL (F.take (i + 1)) = true) := Lib.hid (by rw [HSN.out, HAP.out, HP.out]; rfl)
        have HS2 : Hid (∃ k, k ≤ i + 1 ∧ SeenIs wr w.heap.size k (fun p => if p ≠ 0 ∧ p ∈ F.take (i + 1) then 1 else 0)) := Lib.hid (by
          obtain ⟨k, hk, hs⟩ := HS.out
          refine ⟨k, by omega, hs.congr (fun p => ?_)⟩
          rw [HSN.out]
          by_cases hp : p = 0
          · simp [hp]
          · simp [hp])
        go_wp2_with fail
        go_roundw
        case rel => exact ⟨i + 1, by go_num, by omega, HS2, HBR, HA, HP2⟩
        case measure => simp [intOf]; omega
      · have b0 : (x == 0) = false := by simpa using h0
        obtain ⟨k, hk, hs⟩ := HS.out
        have HSS := Lib.hid hs
        obtain ⟨c, hc⟩ : ∃ c, (fun p => if p ≠ 0 ∧ p ∈ F.take i then (1 : Int) else 0) x = c := ⟨_, rfl⟩
        have HC := Lib.hid hc
        clear hs
        have hc01 : c = if x ∈ F.take i then 1 else 0 := by rw [← hc]; simp [h0]
        have hci : 0 ≤ c ∧ c ≤ 1 := by rw [hc01]; split <;> omega
        have c1 : wrap64 (c + 1) = c + 1 := by unfold wrap64; omega
        have HCI : Hid (I64 (c + 1)) := Lib.hid (by unfold I64; omega)
        have HPUT : Hid ((fun q => if q = x then c + 1 else (fun p => if p ≠ 0 ∧ p ∈ F.take i then (1 : Int) else 0) q) x = c + 1) := Lib.hid (by simp)
        have HBAD : Hid (apartL (F.take i ++ [x]) = false → apartL F = false) := Lib.hid (fun h => apart_take (i := i + 1) (by rw [HSN.out]; exact h))
        clear hc
        by_cases hm : x ∈ F.take i
        · rw [if_pos hm] at hc01
          subst hc01
          have HFA : Hid (apartL F = false) := Lib.hid (HBAD.out (by rw [HAP.out, HP.out, decide_eq_false h0, decide_eq_true hm]; simp))
          clear hm hci h0
          go_wp2_with (first | (at_lookup; refine wp_seen_look rfl (.tmp 16) (.tmp 17) rfl w.heap.size k _ rfl HSS.out x rfl HI.out 1 HC.out ?_) | (at_mapUpdate; refine wp_seen_put rfl (.tmp 16) (.tmp 17) (.tmp 19) rfl w.heap.size w.heap.size k _ rfl HSS.out x rfl HI.out _ rfl HCI.out (by omega) (Nat.le_refl _) ?_; intro w5 h5 b5 g5; have H5 := Lib.hid h5; have B5 := Lib.hid b5; have G5 := Lib.hid g5; clear h5 b5 g5) | (at_lookup; refine wp_seen_look rfl (.tmp 20) (.tmp 21) rfl w.heap.size (k + 1) _ rfl H5.out x rfl HI.out _ HPUT.out ?_))
          go_ret
          exact ⟨by rw [HFA.out]; rfl, HBR.out.trans B5.out⟩
        · rw [if_neg hm] at hc01
          subst hc01
          by_cases hlo : x < 59
          · have HFA : Hid (apartL F = false) := Lib.hid (HBAD.out (by rw [HAP.out, HP.out, decide_eq_false h0, decide_eq_false (fun h => by omega)]; rfl))
            clear hm hci h0
            go_wp2_with (first | (at_lookup; refine wp_seen_look rfl (.tmp 16) (.tmp 17) rfl w.heap.size k _ rfl HSS.out x rfl HI.out 0 HC.out ?_) | (at_mapUpdate; refine wp_seen_put rfl (.tmp 16) (.tmp 17) (.tmp 19) rfl w.heap.size w.heap.size k _ rfl HSS.out x rfl HI.out _ rfl HCI.out (by omega) (Nat.le_refl _) ?_; intro w5 h5 b5 g5; have H5 := Lib.hid h5; have B5 := Lib.hid b5; have G5 := Lib.hid g5; clear h5 b5 g5) | (at_lookup; refine wp_seen_look rfl (.tmp 20) (.tmp 21) rfl w.heap.size (k + 1) _ rfl H5.out x rfl HI.out _ HPUT.out ?_))
            go_ret
            exact ⟨by rw [HFA.out]; rfl, HBR.out.trans B5.out⟩
          · by_cases hhi : 480 ≤ x
            · have HFA : Hid (apartL F = false) := Lib.hid (HBAD.out (by rw [HAP.out, HP.out, decide_eq_false h0, decide_eq_false (fun h => by omega)]; rfl))
              clear hm hci h0
              go_wp2_with (first | (at_lookup; refine wp_seen_look rfl (.tmp 16) (.tmp 17) rfl w.heap.size k _ rfl HSS.out x rfl HI.out 0 HC.out ?_) | (at_mapUpdate; refine wp_seen_put rfl (.tmp 16) (.tmp 17) (.tmp 19) rfl w.heap.size w.heap.size k _ rfl HSS.out x rfl HI.out _ rfl HCI.out (by omega) (Nat.le_refl _) ?_; intro w5 h5 b5 g5; have H5 := Lib.hid h5; have B5 := Lib.hid b5; have G5 := Lib.hid g5; clear h5 b5 g5) | (at_lookup; refine wp_seen_look rfl (.tmp 20) (.tmp 21) rfl w.heap.size (k + 1) _ rfl H5.out x rfl HI.out _ HPUT.out ?_))
              go_ret
              exact ⟨by rw [HFA.out]; rfl, HBR.out.trans B5.out⟩
            · have HP2 : Hid (apartL (F.take (i + 1)) = true) := Lib.hid (by rw [HSN.out, HAP.out, HP.out, decide_eq_false hm, decide_eq_true (show 59 ≤ x ∧ x ≤ 479 by omega)]; simp)
              have HM := Lib.hid h0
              clear hm hci h0
              go_wp2_with (first | (at_lookup; refine wp_seen_look rfl (.tmp 16) (.tmp 17) rfl w.heap.size k _ rfl HSS.out x rfl HI.out 0 HC.out ?_) | (at_mapUpdate; refine wp_seen_put rfl (.tmp 16) (.tmp 17) (.tmp 19) rfl w.heap.size w.heap.size k _ rfl HSS.out x rfl HI.out _ rfl HCI.out (by omega) (Nat.le_refl _) ?_; intro w5 h5 b5 g5; have H5 := Lib.hid h5; have B5 := Lib.hid b5; have G5 := Lib.hid g5; clear h5 b5 g5) | (at_lookup; refine wp_seen_look rfl (.tmp 20) (.tmp 21) rfl w.heap.size (k + 1) _ rfl H5.out x rfl HI.out _ HPUT.out ?_))
              have HS2 : Hid (∃ k, k ≤ i + 1 ∧ SeenIs w5 w.heap.size k (fun p => if p ≠ 0 ∧ p ∈ F.take (i + 1) then 1 else 0)) := Lib.hid ⟨k + 1, by omega, H5.out.congr (fun p => by
                rw [HSN.out]
                by_cases hp : p = x
                · simp [hp, HM.out]
                · by_cases hp0 : p = 0
                  · simp [hp, hp0]
                    exact fun e => HM.out e.symm
                  · simp [hp, hp0])⟩
              go_roundw
              case rel => exact ⟨i + 1, by go_num, by omega, HS2, Lib.hid (HBR.out.trans B5.out), Lib.hid (HA.out.grown G5.out (HRB.out _ rfl)), HP2⟩
              case measure => simp [intOf]; omega
    · obtain rfl : i = T := by omega
      have HT : Hid (apartL F = true) := Lib.hid (by have := HP.out; rwa [← HFL.out, List.take_length] at this)
      go_wp2_with fail
      go_ret
      exact ⟨by rw [HT.out]; rfl, HBR.out⟩

end Go.Proofs.YtmcblhgpcgnaoaaGreatDoor

namespace Go.Proofs.YtmcblhgpcgnaoaaGreatDoor
open Go.RowKit
set_option linter.unusedVariables false
set_option linter.unusedSimpArgs false

theorem take_getD' (zs : List Int) (n i : Nat) (h : i < n) : (zs.take n).getD i 0 = zs.getD i 0 := by
  rw [List.getD_eq_getElem?_getD, List.getD_eq_getElem?_getD, List.getElem?_take, if_pos h]
theorem drop_getD' (zs : List Int) (k i : Nat) : (zs.drop k).getD i 0 = zs.getD (k + i) 0 := by
  rw [List.getD_eq_getElem?_getD, List.getD_eq_getElem?_getD, List.getElem?_drop]
theorem getD_behind (zs : List Int) (i : Nat) (h : zs.length ≤ i) : zs.getD i 0 = 0 := by
  rw [List.getD_eq_getElem?_getD, List.getElem?_eq_none h]; rfl

theorem lay_zero {L zs : List Int} {off n j : Nat} (hfit : off + n ≤ L.length) (h0 : off ≤ j → j < off + n → L.getD j 0 = 0) :
    (lay L off (zs.take n)).getD j 0 = if off ≤ j ∧ j < off + n then zs.getD (j - off) 0 else L.getD j 0 := by
  have hl : (zs.take n).length = min n zs.length := List.length_take
  rw [lay_get _ _ _ _ (by omega), hl]
  by_cases h : off ≤ j ∧ j < off + n
  · rw [if_pos h]
    by_cases h2 : j < off + min n zs.length
    · rw [if_pos ⟨h.1, h2⟩, take_getD' _ _ _ (by omega)]
    · rw [if_neg (fun h' => h2 h'.2), h0 h.1 h.2, getD_behind _ _ (by omega)]
  · rw [if_neg h, if_neg (by omega)]

theorem rep_getD (n j : Nat) : (List.replicate n (0 : Int)).getD j 0 = 0 := by
  rw [List.getD_eq_getElem?_getD, List.getElem?_replicate]
  split <;> rfl

theorem split_length (zs : List Int) : (splitL zs).length = 159 := by
  unfold splitL
  rw [fillL_length]
  exact List.length_replicate

theorem split_get (zs : List Int) (j : Nat) : (splitL zs).getD j 0 = if j < 34 then zs.getD j 0 else if j < 64 then 0 else if j < 154 then zs.getD (j - 30) 0 else 0 := by
  have e : splitL zs = lay (lay (lay (lay (lay (List.replicate 159 0) 0 (zs.take 4)) 4 ((zs.drop 4).take 30)) 64 (((zs.drop 4).drop 30).take 30)) 94 ((((zs.drop 4).drop 30).drop 30).take 30)) 124 (((((zs.drop 4).drop 30).drop 30).drop 30).take 30) := rfl
  rw [e]
  have l0 : (List.replicate 159 (0 : Int)).length = 159 := List.length_replicate
  have g0 := lay_zero (L := List.replicate 159 0) (zs := zs) (off := 0) (n := 4) (j := j) (by rw [l0]; decide) (fun _ _ => rep_getD _ _)
  generalize hL1 : lay (List.replicate 159 (0 : Int)) 0 (zs.take 4) = L1 at *
  have l1 : L1.length = 159 := by rw [← hL1, lay_length, l0]
  rw [rep_getD] at g0
  have g1 := lay_zero (L := L1) (zs := zs.drop 4) (off := 4) (n := 30) (j := j) (by rw [l1]; decide) (fun h _ => by rw [g0, if_neg (by omega)])
  generalize hL2 : lay L1 4 ((zs.drop 4).take 30) = L2 at *
  have l2 : L2.length = 159 := by rw [← hL2, lay_length, l1]
  rw [drop_getD', g0] at g1
  have g2 := lay_zero (L := L2) (zs := (zs.drop 4).drop 30) (off := 64) (n := 30) (j := j) (by rw [l2]; decide) (fun h _ => by rw [g1, if_neg (by omega), if_neg (by omega)])
  generalize hL3 : lay L2 64 (((zs.drop 4).drop 30).take 30) = L3 at *
  have l3 : L3.length = 159 := by rw [← hL3, lay_length, l2]
  rw [drop_getD', drop_getD', g1] at g2
  have g3 := lay_zero (L := L3) (zs := ((zs.drop 4).drop 30).drop 30) (off := 94) (n := 30) (j := j) (by rw [l3]; decide) (fun h _ => by rw [g2, if_neg (by omega), if_neg (by omega), if_neg (by omega)])
  generalize hL4 : lay L3 94 ((((zs.drop 4).drop 30).drop 30).take 30) = L4 at *
  have l4 : L4.length = 159 := by rw [← hL4, lay_length, l3]
  rw [drop_getD', drop_getD', drop_getD', g2] at g3
  have g4 := lay_zero (L := L4) (zs := (((zs.drop 4).drop 30).drop 30).drop 30) (off := 124) (n := 30) (j := j) (by rw [l4]; decide) (fun h _ => by rw [g3, if_neg (by omega), if_neg (by omega), if_neg (by omega), if_neg (by omega)])
  rw [drop_getD', drop_getD', drop_getD', drop_getD', g3] at g4
  rw [g4]
  by_cases h1 : j < 4
  · rw [if_neg (by omega), if_neg (by omega), if_neg (by omega), if_neg (by omega), if_pos (by omega), if_pos (by omega)]
    exact congrArg (fun k => zs.getD k 0) (by omega)
  · by_cases h2 : j < 34
    · rw [if_neg (by omega), if_neg (by omega), if_neg (by omega), if_pos (by omega), if_pos (by omega)]
      exact congrArg (fun k => zs.getD k 0) (by omega)
    · by_cases h3 : j < 64
      · rw [if_neg (by omega), if_neg (by omega), if_neg (by omega), if_neg (by omega), if_neg (by omega), if_neg (by omega), if_pos (by omega)]
      · by_cases h4 : j < 94
        · rw [if_neg (by omega), if_neg (by omega), if_pos (by omega), if_neg (by omega), if_neg (by omega), if_pos (by omega)]
          exact congrArg (fun k => zs.getD k 0) (by omega)
        · by_cases h5 : j < 124
          · rw [if_neg (by omega), if_pos (by omega), if_neg (by omega), if_neg (by omega), if_pos (by omega)]
            exact congrArg (fun k => zs.getD k 0) (by omega)
          · by_cases h6 : j < 154
            · rw [if_pos (by omega), if_neg (by omega), if_neg (by omega), if_pos (by omega)]
              exact congrArg (fun k => zs.getD k 0) (by omega)
            · rw [if_neg (by omega), if_neg (by omega), if_neg (by omega), if_neg (by omega), if_neg (by omega), if_neg (by omega), if_neg (by omega), if_neg (by omega)]

theorem part_of {L : List Int} {o n : Nat} (h : o + n ≤ L.length) : (L.drop o).take n = (List.range n).map fun i => L.getD (o + i) 0 := by
  apply List.ext_getElem?
  intro i
  by_cases hi : i < n
  · rw [List.getElem?_take, if_pos hi, List.getElem?_drop, List.getElem?_map, List.getElem?_range hi, List.getElem?_eq_getElem (by omega)]
    show some L[o + i] = some (L.getD (o + i) 0)
    rw [List.getD_eq_getElem?_getD, List.getElem?_eq_getElem (show o + i < L.length by omega)]
    rfl
  · rw [List.getElem?_eq_none (by rw [List.length_take]; omega), List.getElem?_eq_none (by simp; omega)]

/-- The pages of a chart that pointers were laid into. -/
theorem split_page {zs : List Int} {i s : Nat} (h : i = 0 ∧ s = 4 ∨ i = 2 ∧ s = 34 ∨ i = 3 ∧ s = 64 ∨ i = 4 ∧ s = 94) : pageL (splitL zs) i = partP zs s 30 := by
  unfold pageL partP
  rw [part_of (by rw [split_length]; omega)]
  apply List.map_congr_left
  intro k hk
  have hk' := List.mem_range.1 hk
  show (splitL zs).getD _ 0 = zs.getD _ 0
  rw [split_get]
  rcases h with ⟨rfl, rfl⟩ | ⟨rfl, rfl⟩ | ⟨rfl, rfl⟩ | ⟨rfl, rfl⟩
  · rw [if_pos (by omega)]
  · rw [if_neg (by omega), if_neg (by omega), if_pos (by omega)]; exact congrArg (fun k => zs.getD k 0) (by omega)
  · rw [if_neg (by omega), if_neg (by omega), if_pos (by omega)]; exact congrArg (fun k => zs.getD k 0) (by omega)
  · rw [if_neg (by omega), if_neg (by omega), if_pos (by omega)]; exact congrArg (fun k => zs.getD k 0) (by omega)

def usedN (L : List Int) (i : Nat) : Nat := ((List.range i).filter (needsB L)).length
theorem usedN_succ (L : List Int) (i : Nat) : usedN L (i + 1) = usedN L i + (needsB L i).toNat := by
  unfold usedN
  rw [List.range_succ, List.filter_append, List.length_append]
  cases h : needsB L i <;> simp [List.filter, h]
theorem usedN_le (L : List Int) (i : Nat) : usedN L i ≤ i := by
  unfold usedN
  have := List.length_filter_le (needsB L) (List.range i)
  rwa [List.length_range] at this

/-- Which pages are needed. -/
theorem split_needs (zs : List Int) : needsB (splitL zs) 0 = someP zs 4 30 ∧ needsB (splitL zs) 1 = doubleB zs ∧ needsB (splitL zs) 2 = someP zs 34 30 ∧ needsB (splitL zs) 3 = someP zs 64 30 ∧ needsB (splitL zs) 4 = someP zs 94 30 := by
  have p0 := split_page (zs := zs) (i := 0) (s := 4) (by omega)
  have p2 := split_page (zs := zs) (i := 2) (s := 34) (by omega)
  have p3 := split_page (zs := zs) (i := 3) (s := 64) (by omega)
  have p4 := split_page (zs := zs) (i := 4) (s := 94) (by omega)
  unfold needsB
  rw [p0, p2, p3, p4]
  refine ⟨rfl, ?_, rfl, rfl, rfl⟩
  rw [if_pos rfl]
  unfold doubleB underN
  show ((someP zs 34 30) || (someP zs 64 30 || (someP zs 94 30 || false))) = _
  cases someP zs 34 30 <;> cases someP zs 64 30 <;> cases someP zs 94 30 <;> rfl

theorem usedN_need (zs : List Int) : usedN (splitL zs) 5 = needP zs := by
  obtain ⟨h0, h1, h2, h3, h4⟩ := split_needs zs
  rw [usedN_succ, usedN_succ, usedN_succ, usedN_succ, usedN_succ, h0, h1, h2, h3, h4]
  unfold needP doubleB underN
  cases someP zs 4 30 <;> cases someP zs 34 30 <;> cases someP zs 64 30 <;> cases someP zs 94 30 <;> rfl

theorem lists_one {w : World} {ao : Option Addr} {len cap : Nat} {zs : List Int} (h : IArg w ao len cap zs) (T : TypeId) : ListsIn (w.alloc (.cells #[.slice ao len cap] T)) w.heap.size 0 [zs] := by
  intro j ys hj
  match j, hj with
  | 0, hj =>
    cases hj
    refine ⟨ao, len, cap, ?_, h.later ((Below.refl _ _).alloc (Nat.le_refl _) _)⟩
    rw [World.cell?_alloc_new]
    rfl
  | j + 1, hj => simp at hj

theorem chart_of_own {base g : Nat} {w0 w : World} {L : List Int} (h : OwnV base w0 g (ints L) w) (hl : L.length = 159) : ChartAt w g L := ⟨hl, own_range h⟩

set_option maxRecDepth 100000 in
set_option maxHeartbeats 6400000 in
theorem Need_any (ao : Option Addr) (len cap : Nat) (zs : List Int) (w : World) (hA : IArg w ao len cap zs) : Calls Tryz.prog 139 #[.slice ao len cap] w fun e w' => e = .returned (.tuple #[.int .i64 (needOut zs), .int .i64 (needErr zs)]) ∧ Below w.heap.size w w' := by
  have hlen := hA.len
  by_cases h96 : 96 < len
  · have HE : Hid (needErr zs = 1 ∧ needOut zs = 0) := Lib.hid (by
      unfold needErr needOut ptrsOk
      rw [decide_eq_false (by omega)]
      exact ⟨rfl, rfl⟩)
    have i1 : (96 : Int) < (len : Int) := by omega
    clear hA hlen
    go_enter Tryz.func139, Tryz.ntmps139
    go_wp2_with fail
    go_ret2
    exact ⟨by rw [HE.out.1, HE.out.2]; rfl, Below.refl _ _⟩
  · have i1 : ¬ (96 : Int) < (len : Int) := by omega
    have cA := apart_any w.heap.size 0 1 1 [zs] _ rfl (lists_one hA 50) (by show zs.length + 0 ≤ 10000; omega) (by decide)
    rw [show [zs].flatten = zs from by simp] at cA
    have HP : Hid (ptrsOk zs = apartL zs) := Lib.hid (by unfold ptrsOk; rw [decide_eq_true (by omega)]; rfl)
    have HA := Lib.hid hA
    clear hA hlen
    cases hap : apartL zs with
    | false =>
      have HE : Hid (needErr zs = 1 ∧ needOut zs = 0) := Lib.hid (by
        unfold needErr needOut
        rw [HP.out, hap]
        exact ⟨rfl, rfl⟩)
      rw [hap] at cA
      clear hap
      go_enter Tryz.func139, Tryz.ntmps139
      go_wp2_with (go_at_call 176; refine cA.mono ?_; rintro e w2 ⟨rfl, hb⟩; have HB := Lib.hid hb; clear hb)
      go_ret2
      exact ⟨by rw [HE.out.1, HE.out.2]; rfl, ((Below.refl _ _).alloc (Nat.le_refl _) _).trans (HB.out.mono (by simp))⟩
    | true =>
      have HE : Hid (needErr zs = 0 ∧ needOut zs = (needP zs : Int)) := Lib.hid (by
        unfold needErr needOut
        rw [HP.out, hap]
        exact ⟨rfl, rfl⟩)
      rw [hap] at cA
      clear hap
      have HS : Hid (∀ W, Below w.heap.size w W → Calls Tryz.prog 201 #[.slice ao len cap] W fun e w' => ∃ g, e = .returned (.pointer (some ⟨g, 0, none⟩)) ∧ OwnV W.heap.size W g (ints (splitL zs)) w') := Lib.hid (fun W hW => split_any ao len cap zs W (HA.out.later hW))
      go_enter Tryz.func139, Tryz.ntmps139
      go_wp2_with (first | (go_at_call 176; refine cA.mono ?_; rintro e w2 ⟨rfl, hb⟩; have HB := Lib.hid (((Below.refl _ _).alloc (Nat.le_refl _) _).trans (hb.mono (by simp))); clear hb) | (go_at_call 201; refine (HS.out _ HB.out).mono ?_; rintro e w3 ⟨g, rfl, ho⟩; have HC := Lib.hid (chart_of_own ho (split_length zs)); have HB3 := Lib.hid (HB.out.trans (ho.2.2.2.mono HB.out.size)); clear ho))
      go_loopw [4, 18] (fun nv iv wr => ∃ i : Nat, iv = .int .i64 (i : Int) ∧ nv = .int .i64 ((usedN (splitL zs) i : Nat) : Int) ∧ i ≤ 5 ∧ Hid (Below w.heap.size w wr) ∧ Hid (ChartAt wr g (splitL zs))) (fun _ iv _ => 5 - (intOf iv).toNat)
      case atStart => exact ⟨0, rfl, rfl, Nat.zero_le _, HB3, HC⟩
      case round =>
        obtain ⟨i, rfl, rfl, hi, HBR, HCR⟩ := hrel
        by_cases hlt : i < 5
        · have cN := needs_any HCR.out hlt
          have i5 : (i : Int) < 5 := by omega
          have hu := usedN_succ (splitL zs) i
          have hle := usedN_le (splitL zs) i
          cases hn : needsB (splitL zs) i with
          | false =>
            rw [hn] at cN hu
            have HU : Hid (usedN (splitL zs) (i + 1) = usedN (splitL zs) i) := Lib.hid hu
            clear hn hu hle
            go_wp2_with (go_at_call 202; refine cN.mono ?_; rintro e w5 ⟨rfl, b5⟩; have B5 := Lib.hid b5; clear b5)
            go_roundw
            case rel => exact ⟨i + 1, by go_num, by rw [HU.out], by omega, Lib.hid (HBR.out.trans (B5.out.mono HBR.out.size)), Lib.hid (HCR.out.later B5.out)⟩
            case measure => simp [intOf]; omega
          | true =>
            rw [hn] at cN hu
            have HU : Hid (usedN (splitL zs) (i + 1) = usedN (splitL zs) i + 1) := Lib.hid hu
            have s1 : wrap64 (((usedN (splitL zs) i : Nat) : Int) + 1) = ((usedN (splitL zs) (i + 1) : Nat) : Int) := by rw [HU.out]; unfold wrap64; omega
            clear hn hu hle
            go_wp2_with (go_at_call 202; refine cN.mono ?_; rintro e w5 ⟨rfl, b5⟩; have B5 := Lib.hid b5; clear b5)
            go_roundw
            case rel => exact ⟨i + 1, by go_num, by rw [s1], by omega, Lib.hid (HBR.out.trans (B5.out.mono HBR.out.size)), Lib.hid (HCR.out.later B5.out)⟩
            case measure => simp [intOf]; omega
        · obtain rfl : i = 5 := by omega
          have HU : Hid (usedN (splitL zs) 5 = needP zs) := Lib.hid (usedN_need zs)
          go_wp2_with fail
          go_ret2
          exact ⟨by rw [HE.out.1, HE.out.2, ← HU.out]; rfl, HBR.out⟩

end Go.Proofs.YtmcblhgpcgnaoaaGreatDoor


namespace Go.Proofs.YtmcblhgpcgnaoaaGreatDoor
open Go.RowKit
set_option linter.unusedVariables false
set_option linter.unusedSimpArgs false

/-! ### ReadingT a page -/

theorem words_get (zs : List Int) {i : Nat} (hi : i < 30) (hl : zs.length = 64) : (words zs).getD i 0 = getOut zs (2 * (i : Int)) 2 := by
  have hf : fErr zs.length (2 * (i : Int)) 2 = 0 := by unfold fErr; rw [if_pos hl, if_neg (by omega)]
  unfold getOut words
  rw [if_pos hf, List.getD_eq_getElem?_getD, List.getElem?_map, List.getElem?_range hi, show (2 * (i : Int)).toNat = 2 * i by omega]
  rfl

theorem words_length (zs : List Int) : (words zs).length = 30 := by unfold words; simp

theorem page_there (w : World) (g : Nat) (h : w.rangeAt g 0 (ints (List.replicate 30 0))) (hf : ∀ j, w.frozen? ⟨g, j, none⟩ = false) : w.there g 0 30 := by
  intro j hj
  refine ⟨?_, hf _⟩
  rw [h j (.int .i64 0) (ints_get (by rw [List.getElem?_replicate, if_pos hj]))]
  rfl

theorem results_cell_p {fn : Func} {p : Tmp} {ty : TypeId} (h : fn.results = #[.cell p ty]) (tmps : Array Value) (P : Program) (w : World) :
    (results fn tmps).run P w = ((asAddr (tmps.getD p undef)).run P w).andThen fun a w₁ => (loadVar ty a).run P w₁ := by
  simp only [results, h]
  simp [Sem.run_bind, Result.andThen]
theorem iPageA {p : List Int} (h : p.length = 30) : (Tryz.prog.info? 267).map (·.size) = some (ints p).toArray.size := by rw [List.size_toArray]; exact iPage h
theorem Keeps.frozen {g : Nat} {w w' : World} (h : Keeps g w w') {p : Addr} (hp : p.block ≠ g) : w'.frozen? p = w.frozen? p := World.frozen?_of_block (w := w) (h.2 p.block hp)
theorem Keeps.there {g b o n : Nat} {w w' : World} (h : Keeps g w w') (ht : w.there b o n) (hb : b ≠ g) : w'.there b o n := fun j hj => by
  rw [h.cell (p := ⟨b, o + j, none⟩) hb, h.frozen (p := ⟨b, o + j, none⟩) hb]
  exact ht j hj

theorem made_page (w : World) : OwnV w.heap.size w w.heap.size (ints (List.replicate 30 0)) (w.alloc (.cells zero30 267)) := by
  refine ⟨fun j x hj => ?_, fun j => by rw [World.frozen?_alloc_mark]; simp, Nat.le_refl _, (Below.refl _ _).alloc (Nat.le_refl _) _⟩
  rw [World.cell?_alloc_new]
  have e : zero30 = (ints (List.replicate 30 0)).toArray := rfl
  rw [e]
  simpa using hj

/-- A page that is being read, i numbers of it. -/
def ReadingT (w0 w2 : World) (P : List Int) (i : Nat) (wr : World) : Prop :=
  OwnV w0.heap.size w0 (w0.heap.size + 1) (ints (P.take i ++ List.replicate (30 - i) 0)) wr ∧ Keeps (w0.heap.size + 1) w2 wr

theorem set_mid (P : List Int) (i n : Nat) (hi : i < P.length) (hn : i < n) (x : Int) (hx : x = P.getD i 0) : (P.take i ++ List.replicate (n - i) 0).set i x = P.take (i + 1) ++ List.replicate (n - (i + 1)) 0 := by
  have hl2 : (P.take i).length = i := by rw [List.length_take]; omega
  have e3 : P.take (i + 1) = P.take i ++ [x] := by
    rw [List.take_add_one, List.getElem?_eq_getElem hi, hx, List.getD_eq_getElem?_getD, List.getElem?_eq_getElem hi]
    rfl
  rw [e3, List.set_append_right _ _ (by omega), hl2, Nat.sub_self, show n - i = (n - (i + 1)) + 1 by omega, List.replicate_succ, List.set_cons_zero, List.append_assoc]
  rfl

theorem ReadingT.step {w0 w2 wr : World} {P : List Int} {i : Nat} (h : ReadingT w0 w2 P i wr) (hl : P.length = 30) (hi : i < 30) (x : Int) (hx : x = P.getD i 0) : ReadingT w0 w2 P (i + 1) (wr.setCell ⟨w0.heap.size + 1, i, none⟩ (.int .i64 x)) := by
  refine ⟨?_, h.2.trans (Keeps.set wr ⟨w0.heap.size + 1, i, none⟩ _)⟩
  have h1 := h.1.store (k := i) (y := .int .i64 x) (by rw [ints_length, List.length_append, List.length_take, List.length_replicate]; omega)
  rw [← ints_set, set_mid P i 30 (by omega) hi x hx] at h1
  exact h1

set_option maxRecDepth 100000 in
set_option maxHeartbeats 6400000 in
theorem trRead_any (ao : Option Addr) (cap : Nat) (zs : List Int) (w : World) (hA : Arg w ao 64 cap zs) : Calls Tryz.prog 264 #[.slice ao (64 : Nat) cap] w fun e w' => e = .returned (pageV (words zs)) ∧ Below w.heap.size w w' := by
  have HA := Lib.hid hA
  clear hA
  have HWG := Lib.hid (fun i (hi : i < 30) => words_get zs hi HA.out.1.1)
  have HPL := Lib.hid (words_length zs)
  obtain ⟨P, hP⟩ : ∃ P, words zs = P := ⟨_, rfl⟩
  rw [hP] at HWG HPL ⊢
  clear hP
  have HM : Hid (ReadingT w ((w.alloc (.cells zero30 267)).alloc (.cells zero30 267)) P 0 ((w.alloc (.cells zero30 267)).alloc (.cells zero30 267))) := Lib.hid (by
    have h := made_page (w.alloc (.cells zero30 267))
    rw [World.size_alloc] at h
    refine ⟨⟨h.1, h.2.1, Nat.le_succ _, ((Below.refl _ _).alloc (Nat.le_refl _) _).alloc (by simp) _⟩, Keeps.refl _ _⟩)
  have HT : Hid (((w.alloc (.cells zero30 267)).alloc (.cells zero30 267)).there w.heap.size 0 30) := Lib.hid (by
    have h := made_page w
    exact World.there_alloc (page_there _ _ (own_range h) h.2.1) _)
  unfold zero30 at HM HT
  go_enter Tryz.func264, Tryz.ntmps264
  go_wp2_with fail
  obtain ⟨W2, hW2⟩ : ∃ W2, W2 = (w.alloc (.cells zero30 267)).alloc (.cells zero30 267) := ⟨_, rfl⟩
  unfold zero30 at hW2
  rw [← hW2] at HM HT ⊢
  clear hW2
  go_loopw [5] (fun iv wr => ∃ i : Nat, iv = .int .i64 (i : Int) ∧ i ≤ 30 ∧ Hid (ReadingT w W2 P i wr)) (fun iv _ => 30 - (intOf iv).toNat)
  case atStart => exact ⟨0, rfl, Nat.zero_le _, HM⟩
  case round =>
    obtain ⟨i, rfl, hi, HR⟩ := hrel
    by_cases hlt : i < 30
    · have i1 : (i : Int) < 30 := by omega
      have w2 : wrap64 (2 * (i : Int)) = 2 * (i : Int) := by unfold wrap64; omega
      have cG := fGet_any ao 64 cap zs (2 * (i : Int)) 2 wr (HA.out.later HR.out.1.2.2.2) (by omega) (by decide)
      have HX : Hid (getOut zs (2 * (i : Int)) 2 = P.getD i 0) := Lib.hid (HWG.out i hlt).symm
      have c4 := HR.out.1.1 i _ (ints_get (x := ((P.take i ++ List.replicate (30 - i) 0).getD i 0)) (by
        rw [List.getD_eq_getElem?_getD, List.getElem?_eq_getElem (by rw [List.length_append, List.length_take, List.length_replicate, HPL.out]; omega)]
        rfl))
      have f4 := HR.out.1.2.1 i
      generalize (P.take i ++ List.replicate (30 - i) 0).getD i 0 = y at *
      generalize getOut zs (2 * (i : Int)) 2 = x at *
      generalize fErr 64 (2 * (i : Int)) 2 = E at *
      go_wp2_with (go_at_call 220; refine cG.mono ?_; rintro e w5 ⟨rfl, rfl⟩)
      go_roundw
      case rel => exact ⟨i + 1, by go_num, by omega, Lib.hid (HR.out.step HPL.out hlt x HX.out)⟩
      case measure => simp [intOf]; omega
    · obtain rfl : i = 30 := by omega
      have HO : Hid (OwnV w.heap.size w (w.heap.size + 1) (ints P) wr) := Lib.hid (by
        have h := HR.out.1
        rw [List.take_of_length_le (by rw [HPL.out]; omega), Nat.sub_self, List.replicate_zero, List.append_nil] at h
        exact h)
      have HTh : Hid (wr.there w.heap.size 0 (ints P).toArray.size) := Lib.hid (by
        have e : (ints P).toArray.size = 30 := by rw [List.size_toArray, ints_length, HPL.out]
        rw [e]
        exact HR.out.2.there HT.out (by omega))
      have HRG : Hid ((wr.setCells w.heap.size 0 (ints P)).rangeAt w.heap.size 0 (ints P)) := Lib.hid (World.rangeAt_setCells_same _ _ _ _ (by
        have h := HTh.out
        have e : (ints P).toArray.size = (ints P).length := by simp
        rwa [e] at h))
      have HBB : Hid (Below w.heap.size w (wr.setCells w.heap.size 0 (ints P).toArray.toList)) := Lib.hid (below_cells _ (Nat.le_refl _) _ _ _ HR.out.1.2.2.2)
      go_wp2_with (first | (refine wpList_load_mid rfl 267 (.tmp 3) rfl (w.heap.size + 1) 0 rfl (ints P) _ (own_range HO.out) uPage rfl (iPage (HPL.out)) ?_) | (refine wpList_store_mid rfl 267 (.tmp 2) (.tmp 18) rfl w.heap.size 0 (ints P).toArray rfl rfl HTh.out (iPageA (HPL.out)) (all_oneCell_toArray (ints_one _)) ?_))
      refine bodyPost_ret (v := pageV P) ?_ rfl ⟨rfl, HBB.out⟩
      rw [results_cell_p rfl]
      simp only [asAddr, Sem.run_pure, Result.andThen_ok]
      exact run_loadVar_mid _ _ _ _ _ _ HRG.out uPage rfl (iPage (HPL.out))

end Go.Proofs.YtmcblhgpcgnaoaaGreatDoor


namespace Go.Proofs.YtmcblhgpcgnaoaaGreatDoor
open Go.RowKit
set_option linter.unusedVariables false
set_option linter.unusedSimpArgs false

/-- A list of writes: its cells. -/
def WIs (w : World) (ao : Option Addr) (m : Nat) (ws : List (Int × List Int)) : Prop :=
  ws.length = m ∧ m ≤ 140737488351232 ∧ (m = 0 ∨ ∃ b off, ao = some ⟨b, off, none⟩ ∧ ∀ (j : Nat) (a : Int) (zs : List Int), ws[j]? = some (a, zs) → w.cell? ⟨b, off + j * 2, none⟩ = some (.int .i64 a) ∧ I64 a ∧
    ∃ ad len cap, w.cell? ⟨b, off + j * 2 + 1, none⟩ = some (.slice ad len cap) ∧ Arg w ad len cap zs)

theorem WIs.later {w wx : World} {ao : Option Addr} {m : Nat} {ws : List (Int × List Int)} (h : WIs w ao m ws) (hb : Below w.heap.size w wx) : WIs wx ao m ws := by
  obtain ⟨h1, h2, h3⟩ := h
  refine ⟨h1, h2, h3.imp_right ?_⟩
  rintro ⟨b, off, rfl, hc⟩
  refine ⟨b, off, rfl, fun j a zs hj => ?_⟩
  obtain ⟨c1, c2, ad, len, cap, c3, c4⟩ := hc j a zs hj
  exact ⟨cell_later hb c1, c2, ad, len, cap, cell_later hb c3, c4.later hb⟩

theorem WIs.at {w : World} {ao : Option Addr} {m i : Nat} {ws : List (Int × List Int)} (h : WIs w ao m ws) (hi : i < m) : ∃ b off a zs ad len cap, ao = some ⟨b, off, none⟩ ∧ ws[i]? = some (a, zs) ∧
    w.cell? ⟨b, off + i * 2, none⟩ = some (.int .i64 a) ∧ I64 a ∧ w.cell? ⟨b, off + i * 2 + 1, none⟩ = some (.slice ad len cap) ∧ Arg w ad len cap zs := by
  obtain ⟨h1, h2, h3⟩ := h
  obtain ⟨b, off, rfl, hc⟩ := h3.resolve_left (by omega)
  have hx : ws[i]? = some (ws[i]'(by omega)) := List.getElem?_eq_getElem (by omega)
  obtain ⟨c1, c2, ad, len, cap, c3, c4⟩ := hc i _ _ hx
  exact ⟨b, off, _, _, ad, len, cap, rfl, hx, c1, c2, c3, c4⟩

theorem elemW : ElemR 35 66 (.agg #[.int .i64 0, .slice none 0 0]) 2 32 := ⟨Tryz.underlying35, by kernel_rfl, rfl, by decide, by decide⟩

/-- Where a row lies behind 'append'. -/
theorem append_block {t e : TypeId} {z : Value} {sz nb : Nat} (hE : ElemR t e z sz nb) (w : World) (ty : TypeId) (base n : Nat) (v v' : Value) (w' : World) (xs : List Value) (hown : w.ownsRow base e sz v n xs) (ad : Addr) (m c : Nat) (news : List Value) (hl : news.length = m * sz)
    (hx : ∀ j u, news[j]? = some u → w.cell? (ad.add j) = some u) (h1 : ∀ u ∈ news, u.oneCell' = true) (hb : n + m ≤ 100000) (hm : 0 < m)
    (hr : (Builtin.append_ #[t, t] ty #[v, .slice (some ad) m c]).run Tryz.prog w = .ok v' w') : v'.ownBlock = v.ownBlock ∨ v'.ownBlock = some w.heap.size := by
  obtain ⟨hu, hi, hz, hp, hnb⟩ := hE
  obtain ⟨i0, hi0, hz0, hz1, hz2⟩ := info_parts hi
  have hbytes : (n + m) * i0.bytes ≤ 140737488355328 := by
    rw [hz2]
    have : (n + m) * nb ≤ 100001 * 64 := Nat.mul_le_mul (by omega) hnb
    omega
  subst hz1
  rcases hown.2 with ⟨rfl, rfl⟩ | ⟨g, cap, cur, rfl, hbg, hg, hnc, hcm, hcs, htake⟩
  · have h := run_append_nil (P := Tryz.prog) w t ty e i0 z hu hi0 hz0 ad m c news hl hx hm (by omega) (by rw [Nat.zero_add] at hbytes; omega)
    rw [hr] at h
    cases h
    exact Or.inr rfl
  · by_cases hroom : n + m ≤ cap
    · have h := run_append_room (P := Tryz.prog) w t ty e i0 hu hi0 g n cap cur hg ad m c news hl hx h1 hroom (by rw [hl, hcs, ← Nat.add_mul]; exact Nat.mul_le_mul_right _ hroom)
      rw [hr] at h
      cases h
      exact Or.inl rfl
    · have h := run_append_grow (P := Tryz.prog) w t ty e i0 z hu hi0 hz0 ⟨g, 0, none⟩ n cap xs hown.1 (hown.cells (g := g) rfl) ad m c news hl hx (by omega) (by omega) (growslice_fits (by omega) hbytes)
      rw [hr] at h
      cases h
      exact Or.inr rfl

section
variable {ops : Array Oper} {rest : List Oper} {o : Oper} {a : Act} {w : World} {Q : Exit → Act → World → Prop}

/-- 'append(dst, news...)', told with where the row lies. -/
theorem wp_append_at {t e : TypeId} {z : Value} {sz nb : Nat} (hE : ElemR t e z sz nb) (hgd : o.guard = none) (s y : Operand) (ho : o.op = .call { callee := .builtin .append, args := #[s, y], argTypes := #[t, t] })
    (base n : Nat) (v : Value) (xs : List Value) (hs : a.eval s = v) (hown : w.ownsRow base e sz v n xs) (ad : Addr) (m c : Nat) (news : List Value) (hl : news.length = m * sz) (hm : 0 < m) (hy : a.eval y = .slice (some ad) m c)
    (hx : ∀ j u, news[j]? = some u → w.cell? (ad.add j) = some u) (h1 : ∀ u ∈ news, u.oneCell' = true) (hb : n + m ≤ 100000) (hbase : base ≤ w.heap.size)
    (h : ∀ v' w', w'.ownsRow base e sz v' (n + m) (xs ++ news) → w.grownBy w' v.ownBlock → Below base w w' → (v'.ownBlock = v.ownBlock ∨ v'.ownBlock = some w.heap.size) → wpList Tryz.prog ops Q rest (a.put o.dst v') w') : wpList Tryz.prog ops Q (o :: rest) a w := by
  have hE2 := hE
  obtain ⟨hu, hi, hz, hp, hnb⟩ := hE
  obtain ⟨i0, hi0, hz0, hz1, hz2⟩ := info_parts hi
  obtain ⟨v', w', hrun, h2, h3, _⟩ := run_append_own (P := Tryz.prog) w base t o.type e i0 z sz nb hu hi0 hz0 hz1 hz2 hz hp v n xs hown ad m c news hl hx h1
      (by unfold maxLen; omega) (by have : (n + m) * nb ≤ 100001 * 64 := Nat.mul_le_mul (by omega) hnb
                                    omega) hbase
  have h4 := append_block hE2 w o.type base n v v' w' xs hown ad m c news hl hx h1 hb hm hrun
  refine wpList_plain hgd fun K hK => ?_
  unfold Oper.wp
  simp [execOp, ho, resolve, invoke, builtin, hs, hy, hrun, Result.andThen]
  exact hK _ _ (h v' w' h2 h3 ((Below.refl base w).grown h3 hbase (fun k hk => (hown.lt k hk).1)) h4)
end

/-- A list of writes of the call's own, each text in a block apart from the row. -/
def WOwn (base : Nat) (w : World) (v : Value) (ws : List (Int × List Int)) : Prop :=
  ∃ xs, w.ownsRow base 66 2 v ws.length xs ∧ ∀ (j : Nat) (a : Int) (zs : List Int), ws[j]? = some (a, zs) → xs[j * 2]? = some (.int .i64 a) ∧ I64 a ∧ ∃ db off cap, xs[j * 2 + 1]? = some (.slice (some ⟨db, off, none⟩) 64 cap) ∧ (base ≤ db ∧ db < w.heap.size) ∧ v.ownBlock ≠ some db ∧ Arg w (some ⟨db, off, none⟩) 64 cap zs

theorem WOwn.nil (base : Nat) (w : World) : WOwn base w (.slice none 0 0) [] := ⟨[], owns_nil_r _ _ _ _, fun j a zs h => by simp at h⟩

theorem arg_grown {w w' : World} {db off len cap : Nat} {zs : List Int} {row : Option Nat} (h : Arg w (some ⟨db, off, none⟩) len cap zs) (hg : w.grownBy w' row) (hne : row ≠ some db) : Arg w' (some ⟨db, off, none⟩) len cap zs := by
  obtain ⟨⟨h1, h2, h3, h4⟩, h5⟩ := h
  refine ⟨⟨h1, h2, h3, h4.imp_right ?_⟩, h5⟩
  rintro ⟨b, o, he, hc⟩
  simp only [Option.some.injEq, Addr.mk.injEq, and_true] at he
  obtain ⟨rfl, rfl⟩ := he
  exact ⟨db, off, rfl, fun j hj => hg.cell (hc j hj) (fun e => hne e.symm)⟩

theorem WOwn.snoc {base : Nat} {wr wx w4 : World} {v v' : Value} {ws : List (Int × List Int)} {a : Int} {zs : List Int} {xs : List Value} {db off cap : Nat} {ob : Obj}
    (h1 : wr.ownsRow base 66 2 v ws.length xs) (h2 : ∀ (j : Nat) (a : Int) (zs : List Int), ws[j]? = some (a, zs) → xs[j * 2]? = some (.int .i64 a) ∧ I64 a ∧ ∃ db off cap, xs[j * 2 + 1]? = some (.slice (some ⟨db, off, none⟩) 64 cap) ∧ (base ≤ db ∧ db < wr.heap.size) ∧ v.ownBlock ≠ some db ∧ Arg wr (some ⟨db, off, none⟩) 64 cap zs)
    (hb : Below wr.heap.size wr wx) (hbs : base ≤ wr.heap.size) (ha : I64 a) (hd : wr.heap.size ≤ db) (hd2 : db < wx.heap.size) (hA : Arg wx (some ⟨db, off, none⟩) 64 cap zs)
    (hown : w4.ownsRow base 66 2 v' (ws.length + 1) (xs ++ [.int .i64 a, .slice (some ⟨db, off, none⟩) 64 cap])) (hg : (wx.alloc ob).grownBy w4 v.ownBlock) (hv : v'.ownBlock = v.ownBlock ∨ v'.ownBlock = some (wx.alloc ob).heap.size) : WOwn base w4 v' (ws ++ [(a, zs)]) := by
  have hxl : xs.length = ws.length * 2 := h1.1
  have hsz : wr.heap.size ≤ wx.heap.size := hb.size
  have hsz4 : (wx.alloc ob).heap.size ≤ w4.heap.size := hg.size
  rw [World.size_alloc] at hsz4
  have hal : ∀ {d o l c : Nat} {y : List Int}, Arg wx (some ⟨d, o, none⟩) l c y → Arg (wx.alloc ob) (some ⟨d, o, none⟩) l c y := fun h => h.later ((Below.refl _ _).alloc (Nat.le_refl _) _)
  refine ⟨_, by rw [List.length_append]; exact hown, fun j b ys hj => ?_⟩
  by_cases hjl : j < ws.length
  · rw [List.getElem?_append_left hjl] at hj
    obtain ⟨c1, c2, d, o, c, c3, c4, c5, c6⟩ := h2 j b ys hj
    refine ⟨by rw [List.getElem?_append_left (by omega)]; exact c1, c2, d, o, c, by rw [List.getElem?_append_left (by omega)]; exact c3, ⟨c4.1, by omega⟩, ?_, arg_grown (hal (c6.later hb)) hg c5⟩
    rcases hv with e | e
    · rw [e]; exact c5
    · rw [e, World.size_alloc]
      intro h
      simp at h
      omega
  · have hj0 : j = ws.length := by
      have := (List.getElem?_eq_some_iff.1 hj).1
      simp at this
      omega
    subst hj0
    rw [List.getElem?_append_right (Nat.le_refl _), Nat.sub_self] at hj
    simp at hj
    obtain ⟨rfl, rfl⟩ := hj
    have hvd : v.ownBlock ≠ some db := fun e => by have := (h1.lt db e).2; omega
    refine ⟨by rw [List.getElem?_append_right (by omega), hxl, Nat.sub_self]; rfl, ha, db, off, cap, by rw [List.getElem?_append_right (by omega), show ws.length * 2 + 1 - xs.length = 1 by omega]; rfl, ⟨by omega, by omega⟩, ?_, arg_grown (hal hA) hg hvd⟩
    rcases hv with e | e
    · rw [e]; exact hvd
    · rw [e, World.size_alloc]
      intro h
      simp at h
      omega

theorem owns_keeps {w w' : World} {base n sz g : Nat} {e : TypeId} {v : Value} {xs : List Value} (h : w.ownsRow base e sz v n xs) (hk : Keeps g w w') (hg : g < base) : w'.ownsRow base e sz v n xs := by
  refine ⟨h.1, h.2.imp_right ?_⟩
  rintro ⟨b, cap, cur, hv, hb, hh, rest⟩
  exact ⟨b, cap, cur, hv, hb, by rw [hk.2 b (by omega)]; exact hh, rest⟩
theorem arg_keeps {w w' : World} {db off len cap g : Nat} {zs : List Int} (h : Arg w (some ⟨db, off, none⟩) len cap zs) (hk : Keeps g w w') (hne : db ≠ g) : Arg w' (some ⟨db, off, none⟩) len cap zs := by
  obtain ⟨⟨h1, h2, h3, h4⟩, h5⟩ := h
  refine ⟨⟨h1, h2, h3, h4.imp_right ?_⟩, h5⟩
  rintro ⟨b, o, he, hc⟩
  simp only [Option.some.injEq, Addr.mk.injEq, and_true] at he
  obtain ⟨rfl, rfl⟩ := he
  exact ⟨db, off, rfl, fun j hj => by rw [hk.cell (p := ⟨db, off + j, none⟩) hne]; exact hc j hj⟩
theorem WOwn.keeps {base g : Nat} {w w' : World} {v : Value} {ws : List (Int × List Int)} (h : WOwn base w v ws) (hk : Keeps g w w') (hg : g < base) : WOwn base w' v ws := by
  obtain ⟨xs, ho, hx⟩ := h
  refine ⟨xs, owns_keeps ho hk hg, fun j a zs hj => ?_⟩
  obtain ⟨c1, c2, d, o, c, c3, c4, c5, c6⟩ := hx j a zs hj
  exact ⟨c1, c2, d, o, c, c3, ⟨c4.1, by rw [hk.1]; exact c4.2⟩, c5, arg_keeps c6 hk (by omega)⟩
theorem WOwn.mono {base base' : Nat} {w : World} {v : Value} {ws : List (Int × List Int)} (h : WOwn base' w v ws) (hb : base ≤ base') : WOwn base w v ws := by
  obtain ⟨xs, ho, hx⟩ := h
  refine ⟨xs, owns_mono_r ho hb, fun j a zs hj => ?_⟩
  obtain ⟨c1, c2, d, o, c, c3, c4, c5, c6⟩ := hx j a zs hj
  exact ⟨c1, c2, d, o, c, c3, ⟨by omega, c4.2⟩, c5, c6⟩
theorem WOwn.later {base : Nat} {w w' : World} {v : Value} {ws : List (Int × List Int)} (h : WOwn base w v ws) (hb : Below w.heap.size w w') : WOwn base w' v ws := by
  obtain ⟨xs, ho, hx⟩ := h
  refine ⟨xs, owns_later_r ho hb, fun j a zs hj => ?_⟩
  obtain ⟨c1, c2, d, o, c, c3, c4, c5, c6⟩ := hx j a zs hj
  have := hb.size
  exact ⟨c1, c2, d, o, c, c3, ⟨c4.1, by omega⟩, c5, c6.later hb⟩

end Go.Proofs.YtmcblhgpcgnaoaaGreatDoor


namespace Go.Proofs.YtmcblhgpcgnaoaaGreatDoor
open Go.RowKit

set_option maxHeartbeats 400000 in
theorem fSealed_any (ao : Option Addr) (len cap : Nat) (zs : List Int) (w : World) (hA : Arg w ao len cap zs) :
    Calls Tryz.prog 114 #[.slice ao len cap] w (Says w.heap.size w (sealedB zs)) := by
  have hl := hA.1.1
  by_cases h64 : len = 64
  · subst h64
    have hz := hA.1.2.2.1
    have HV : Hid (((str (zs.drop 60)).toList == (str (leB (sumS (zs.take 60)) 4)).toList) = sealedB zs) := Lib.hid (by
      rw [str_eq (fun z h => hz z (List.mem_of_mem_drop h)) (leB_bytes _ _)]
      unfold sealedB
      rw [sealOf_take hl, Bool.eq_iff_iff, decide_eq_true_iff, decide_eq_true_iff]
      have e : zs.take 60 ++ zs.drop 60 = zs := List.take_append_drop 60 zs
      constructor
      · intro h
        rw [← h]
        exact ⟨hl, e⟩
      · intro h
        have h2 := h.2
        conv at h2 => rhs; rw [← e]
        exact (List.append_cancel_left h2).symm)
    have cS := fSum_any ao cap zs w.drew (show Arg w.drew ao 64 cap zs from hA)
    obtain ⟨hB, _, hcap, _⟩ := hA
    obtain ⟨b, off, rfl, _⟩ := hB.2.2.2.resolve_left (by decide)
    have hD : Bts w.drew (some ⟨b, off + 60, none⟩) 4 (zs.drop 60) := bts_drop (k := 60) (show Bts w.drew (some ⟨b, off, none⟩) 64 zs from hB) (by decide)
    have HD := Lib.hid hD
    have s0 := str_bytes (cap := cap - 60) hD
    clear hB hD hl hz
    have hcne : ¬ cap = 60 := by omega
    have i2 : (60 : Int) ≤ (cap : Int) := by omega
    go_enter Tryz.func114, Tryz.ntmps114
    go_wp2_with fail
    go_region_with (first | (go_at_call 163; refine cS.mono ?_; rintro e w5 ⟨rfl, b5⟩; have B5 := Lib.hid b5; have s2 := str_bytes (cap := cap - 60) (HD.out.later b5); clear b5))
    all_goals (go_wp2_with fail; go_ret; exact ⟨by rw [← HV.out]; rfl, (Below.refl _ _).drew.trans B5.out⟩)
  · have hv : sealedB zs = false := by
      unfold sealedB
      rw [hl]
      simp [h64]
    have hne : ((len : Int) == 64) = false := by simp; omega
    rw [hv]
    go_enter Tryz.func114, Tryz.ntmps114
    go_wp2_with fail
    go_quiet (fail)
    go_wp2_with fail
    go_ret
    exact ⟨rfl, below_drewN (Below.refl _ _) _⟩

end Go.Proofs.YtmcblhgpcgnaoaaGreatDoor


namespace Go.Proofs.YtmcblhgpcgnaoaaGreatDoor
open Go.RowKit
set_option linter.unusedVariables false
set_option linter.unusedSimpArgs false

theorem find_index {ws : List (Int × List Int)} {q : Int} {zs : List Int} (h : findW ws q = some zs) : ∃ k, ws[k]? = some (q, zs) ∧ ∀ (j : Nat) (a : Int) (ys : List Int), j < k → ws[j]? = some (a, ys) → a ≠ q := by
  unfold findW at h
  induction ws with
  | nil => simp at h
  | cons w r ih =>
    rw [List.find?_cons] at h
    by_cases hw : w.1 = q
    · rw [decide_eq_true hw] at h
      simp at h
      refine ⟨0, ?_, fun j a ys hj => absurd hj (Nat.not_lt_zero j)⟩
      show some w = _
      rw [← hw, ← h]
    · rw [decide_eq_false hw] at h
      obtain ⟨k, h1, h2⟩ := ih h
      refine ⟨k + 1, h1, fun j a ys hj hjs => ?_⟩
      cases j with
      | zero =>
        have : w = (a, ys) := by simpa using hjs
        rw [this] at hw
        exact hw
      | succ j => exact h2 j a ys (by omega) (by simpa using hjs)

def wV (a : Int) (ad : Option Addr) (l c : Nat) : Value := .agg #[.int .i64 a, .slice ad l c]

/-- What a closure over a chart and a page's number reads. -/
structure Caps (w : World) (g B1 B2 i : Nat) (q : Int) : Prop where
  c1 : w.cell? ⟨B1, 0, none⟩ = some (.pointer (some ⟨g, 0, none⟩))
  c2 : w.cell? ⟨B2, 0, none⟩ = some (.int .i64 (i : Int))
  c3 : w.cell? ⟨g, 154 + i, none⟩ = some (.int .i64 q)
theorem Caps.later {w wx : World} {g B1 B2 i : Nat} {q : Int} (h : Caps w g B1 B2 i q) (hb : Below w.heap.size w wx) : Caps wx g B1 B2 i q := ⟨cell_later hb h.c1, cell_later hb h.c2, cell_later hb h.c3⟩

set_option maxRecDepth 100000 in
set_option maxHeartbeats 1600000 in
theorem fetch1_any (a : Int) (ad : Option Addr) (l c : Nat) {g B1 B2 i : Nat} {q : Int} (w : World) (hC : Caps w g B1 B2 i q) (hi : i < 5) :
    Calls Tryz.prog 263 #[wV a ad l c, .pointer (some ⟨B1, 0, none⟩), .pointer (some ⟨B2, 0, none⟩)] w fun e w' => e = .returned (.bool (decide (a = q))) ∧ Below w.heap.size w w' := by
  have HC : Hid (∀ o, Caps (w.alloc o) g B1 B2 i q) := Lib.hid (fun o => hC.later ((Below.refl _ _).alloc (Nat.le_refl _) _))
  have c1 := fun o => (HC.out o).c1
  have c2 := fun o => (HC.out o).c2
  have c3 := fun o => (HC.out o).c3
  have HB : Hid (∀ o, Below w.heap.size w (w.alloc o)) := Lib.hid (fun o => (Below.refl _ _).alloc (Nat.le_refl _) _)
  have i1 : (i : Int) < 5 := by omega
  have i0 : (0 : Int) ≤ (i : Int) := by omega
  have e1 : (a == q) = decide (a = q) := by
    by_cases h : a = q
    · rw [decide_eq_true h]; simpa using h
    · rw [decide_eq_false h]; simpa using h
  have HE := Lib.hid e1
  clear hC e1
  unfold wV
  go_enter Tryz.func263, Tryz.ntmps263
  go_wp2_with fail
  go_quiet (fail)
  go_wp2_with fail
  go_ret
  exact ⟨by rw [← HE.out]; rfl, below_drewN (HB.out _) _⟩

set_option maxRecDepth 100000 in
set_option maxHeartbeats 1600000 in
theorem indexW_any {w : World} {ao : Option Addr} {m cap g B1 B2 i k : Nat} {q : Int} {ws : List (Int × List Int)} {zs : List Int} (hL : WIs w ao m ws) (hC : Caps w g B1 B2 i q) (hi5 : i < 5) (hk : ws[k]? = some (q, zs)) (hk2 : ∀ (j : Nat) (a : Int) (ys : List Int), j < k → ws[j]? = some (a, ys) → a ≠ q) :
    Calls Tryz.prog 262 #[.slice ao m cap, .func (.func 263) #[] #[.pointer (some ⟨B1, 0, none⟩), .pointer (some ⟨B2, 0, none⟩)]] w fun e w' => e = .returned (.int .i64 (k : Int)) ∧ Below w.heap.size w w' := by
  have HL := Lib.hid hL
  have HC := Lib.hid hC
  have HK := Lib.hid hk
  have HK2 := Lib.hid hk2
  have hm := hL.2.1
  have hkm : k < m := by
    have := (List.getElem?_eq_some_iff.1 hk).1
    have := hL.1
    omega
  clear hL hC hk hk2
  go_enter Tryz.func262, Tryz.ntmps262
  go_wp2_with fail
  go_loopw [8] (fun iv wr => ∃ n : Nat, iv = .int .i64 (n : Int) ∧ n ≤ k ∧ Hid (Below w.heap.size w wr)) (fun iv _ => m - (intOf iv).toNat)
  case atStart => exact ⟨0, rfl, Nat.zero_le _, Lib.hid (Below.refl _ _)⟩
  case round =>
    obtain ⟨n, rfl, hn, HB⟩ := hrel
    have hlt : n < m := by omega
    obtain ⟨b, off, x, ys, ad, l, c, rfl, hp, d1, _, d2, _⟩ := (HL.out.later HB.out).at hlt
    have i1 : (n : Int) < (m : Int) := by omega
    have cF := fetch1_any x ad l c wr (HC.out.later HB.out) hi5
    unfold wV at cF
    by_cases he : n = k
    · subst he
      have hxq : x = q := by
        have h := HK.out
        rw [hp] at h
        simp at h
        exact h.1
      rw [decide_eq_true hxq] at cF
      clear hp hxq
      go_wp2_with (go_at_call 263; refine cF.mono ?_; rintro e w3 ⟨rfl, hb3⟩; have HB3 := Lib.hid hb3; clear hb3)
      go_ret
      exact ⟨rfl, HB.out.trans (HB3.out.mono HB.out.size)⟩
    · have hxq : x ≠ q := HK2.out n x ys (by omega) hp
      rw [decide_eq_false hxq] at cF
      clear hp hxq
      go_wp2_with (go_at_call 263; refine cF.mono ?_; rintro e w3 ⟨rfl, hb3⟩; have HB3 := Lib.hid hb3; clear hb3)
      go_roundw
      case rel => exact ⟨n + 1, by go_num, by omega, Lib.hid (HB.out.trans (HB3.out.mono HB.out.size))⟩
      case measure => simp [intOf]; omega

/-- No page: nothing is read. -/
theorem fetch0_any {w : World} {g i : Nat} {ao : Option Addr} {m cap : Nat} (hc : w.cell? ⟨g, 154 + i, none⟩ = some (.int .i64 0)) (hi : i < 5) :
    Calls Tryz.prog 223 #[.pointer (some ⟨g, 0, none⟩), .int .i64 (i : Int), .slice ao m cap] w fun e w' => e = .returned (.bool true) ∧ Below w.heap.size w w' := by
  have HB : Hid (∀ o p, Below w.heap.size w ((w.alloc o).alloc p)) := Lib.hid (fun o p => ((Below.refl _ _).alloc (Nat.le_refl _) _).alloc (by simp) _)
  have hc2 : ∀ o p, ((w.alloc o).alloc p).cell? ⟨g, 154 + i, none⟩ = some (.int .i64 0) := fun o p => cell_later (HB.out o p) hc
  have i1 : (i : Int) < 5 := by omega
  have i0 : (0 : Int) ≤ (i : Int) := by omega
  clear hc
  go_enter Tryz.func223, Tryz.ntmps223
  go_wp2_with fail
  go_quiet (fail)
  go_wp2_with fail
  go_ret
  exact ⟨rfl, below_drewN (HB.out _ _) _⟩

end Go.Proofs.YtmcblhgpcgnaoaaGreatDoor


namespace Go.Proofs.YtmcblhgpcgnaoaaGreatDoor
open Go.RowKit
set_option linter.unusedVariables false
set_option linter.unusedSimpArgs false

theorem page_parts {zs pg : List Int} (h : pageOf zs = some pg) : zs.length = 64 ∧ sealedB zs = true ∧ words zs = pg ∧ pg.any nzB = true ∧ apartL pg = true := by
  unfold pageOf at h
  split at h
  · next hc =>
    cases h
    simp only [Bool.and_eq_true, decide_eq_true_eq] at hc
    exact ⟨hc.1.1, decide_eq_true hc.1, rfl, hc.2.1, hc.2.2⟩
  · cases h

theorem there_later' {w wx : World} {b o n : Nat} (hb : Below w.heap.size w wx) (h : w.there b o n) (hlt : b < w.heap.size) : wx.there b o n := fun j hj => by
  obtain ⟨h1, h2⟩ := h j hj
  obtain ⟨u, hu⟩ := Option.isSome_iff_exists.1 h1
  exact ⟨by rw [cell_later hb hu]; rfl, by rw [hb.frozen (p := ⟨b, o + j, none⟩) hlt]; exact h2⟩

/-- The variables that a closure reads. -/
theorem caps_made {w : World} {g i : Nat} {q : Int} (hc : w.cell? ⟨g, 154 + i, none⟩ = some (.int .i64 q)) (T1 T2 : TypeId) : Caps ((w.alloc (.cells #[.pointer (some ⟨g, 0, none⟩)] T1)).alloc (.cells #[.int .i64 (i : Int)] T2)) g w.heap.size (w.heap.size + 1) i q := by
  have hb : Below w.heap.size w ((w.alloc (.cells #[.pointer (some ⟨g, 0, none⟩)] T1)).alloc (.cells #[.int .i64 (i : Int)] T2)) := ((Below.refl _ _).alloc (Nat.le_refl _) _).alloc (by simp) _
  refine ⟨?_, ?_, cell_later hb hc⟩
  · exact cell_later ((Below.refl _ _).alloc (Nat.le_refl _) _) (one_cell_new w _ T1)
  · have e : (w.alloc (.cells #[.pointer (some ⟨g, 0, none⟩)] T1)).heap.size = w.heap.size + 1 := World.size_alloc _ _
    have h2 := one_cell_new (w.alloc (.cells #[.pointer (some ⟨g, 0, none⟩)] T1)) (.int .i64 (i : Int)) T2
    rw [e] at h2
    exact h2

set_option maxRecDepth 100000 in
set_option maxHeartbeats 6400000 in
theorem fetchP_any {w0 w : World} {g i : Nat} {L : List Int} {ao : Option Addr} {m cap : Nat} {ws : List (Int × List Int)} {q : Int} {zs pg : List Int} (hO : OwnV w0.heap.size w0 g (ints L) w) (hL : L.length = 159) (hW : WIs w0 ao m ws) (hi : i < 5) (hq : L.getD (154 + i) 0 = q) (h0 : q ≠ 0) (hf : findW ws q = some zs) (hp : pageOf zs = some pg) :
    Calls Tryz.prog 223 #[.pointer (some ⟨g, 0, none⟩), .int .i64 (i : Int), .slice ao m cap] w fun e w' => e = .returned (.bool true) ∧ OwnV w0.heap.size w0 g (ints (lay L (4 + i * 30) pg)) w' := by
  obtain ⟨k, hk1, hk2⟩ := find_index hf
  obtain ⟨p1, p2, p3, p4, _⟩ := page_parts hp
  have hmk : k < m := by
    have := (List.getElem?_eq_some_iff.1 hk1).1
    have := hW.1
    omega
  obtain ⟨b, off, a, ys, ad, l, c, rfl, hks, _, _, d2, hA⟩ := hW.at hmk
  have hys : ys = zs := by
    rw [hk1] at hks
    simp at hks
    exact hks.2.symm
  subst hys
  have hl64 : l = 64 := by rw [← hA.1.1, p1]
  subst hl64
  have hne : ints L ≠ [] := by intro h; have := congrArg List.length h; rw [ints_length, hL] at this; simp at this
  have hcq : w.cell? ⟨g, 154 + i, none⟩ = some (.int .i64 q) := hO.1 _ _ (ints_get (by rw [← hq, List.getD_eq_getElem?_getD, List.getElem?_eq_getElem (by omega)]; rfl))
  have hglt : g < w.heap.size := World.block_lt_of_cell? _ _ hcq
  have HB : Hid (∀ o p, Below w.heap.size w ((w.alloc o).alloc p)) := Lib.hid (fun o p => ((Below.refl _ _).alloc (Nat.le_refl _) _).alloc (by simp) _)
  have hc2 : ∀ o p, ((w.alloc o).alloc p).cell? ⟨g, 154 + i, none⟩ = some (.int .i64 q) := fun o p => cell_later (HB.out o p) hcq
  have i1 : (i : Int) < 5 := by omega
  have i0 : (0 : Int) ≤ (i : Int) := by omega
  have b0 : (q == 0) = false := by simpa using h0
  have HM : Hid (∃ W, W = ((w.alloc (.cells #[.pointer (some ⟨g, 0, none⟩)] 231)).alloc (.cells #[.int .i64 (i : Int)] 3))) := Lib.hid ⟨_, rfl⟩
  have HIX : Hid (∀ W, Below w0.heap.size w0 W → Caps W g w.heap.size (w.heap.size + 1) i q → Calls Tryz.prog 262 #[.slice (some ⟨b, off, none⟩) m cap, .func (.func 263) #[] #[.pointer (some ⟨w.heap.size, 0, none⟩), .pointer (some ⟨w.heap.size + 1, 0, none⟩)]] W fun e w' => e = .returned (.int .i64 (k : Int)) ∧ Below W.heap.size W w') := Lib.hid (fun W hB hC => indexW_any (hW.later hB) hC hi hk1 hk2)
  have HSE : Hid (∀ W, Below w0.heap.size w0 W → Calls Tryz.prog 114 #[.slice ad 64 c] W (Says W.heap.size W true)) := Lib.hid (fun W hB => by
    have h := fSealed_any ad 64 c ys W (hA.later hB)
    rw [p2] at h
    exact h)
  have HRD : Hid (∀ W, Below w0.heap.size w0 W → Calls Tryz.prog 264 #[.slice ad (64 : Nat) c] W fun e w' => e = .returned (pageV pg) ∧ Below W.heap.size W w') := Lib.hid (fun W hB => by
    have h := trRead_any ad c ys W (hA.later hB)
    rw [p3] at h
    exact h)
  have hl30 : pg.length = 30 := by rw [← p3]; exact words_length _
  have HUS : Hid (∀ W, Calls Tryz.prog 248 #[pageV pg] W fun e w' => e = .returned (.bool true) ∧ Below W.heap.size W w') := Lib.hid (fun W => by
    have h := used_any pg W hl30
    rw [p4] at h
    exact h)
  have HCQ := Lib.hid hcq
  have HBW : Hid (b < w0.heap.size) := Lib.hid (World.block_lt_of_cell? _ _ d2)
  have HGE : Hid (w0.heap.size ≤ g) := Lib.hid hO.2.2.1
  have HO := Lib.hid hO
  have HD2 := Lib.hid d2
  have HLL := Lib.hid hL
  have HL30 := Lib.hid hl30
  have k1 : (k : Int) < (m : Int) := by omega
  have k0 : ¬ ((k : Int) < 0) := by omega
  have k2 : (0 : Int) ≤ (k : Int) := by omega
  clear hO hL hW hq h0 hf hp hk1 hk2 p1 p2 p3 p4 hks d2 hA hne hcq
  unfold pageV at HRD HUS
  go_enter Tryz.func223, Tryz.ntmps223
  go_wp2_with fail
  go_quiet (fail)
  obtain ⟨W1, hW1⟩ : ∃ W1, W1 = ((w.alloc (.cells #[.pointer (some ⟨g, 0, none⟩)] 231)).alloc (.cells #[.int .i64 (i : Int)] 3)).drewN nq := ⟨_, rfl⟩
  have HB1 : Hid (Below w.heap.size w W1) := Lib.hid (by rw [hW1]; exact below_drewN (HB.out _ _) _)
  have HCP : Hid (Caps W1 g w.heap.size (w.heap.size + 1) i q) := Lib.hid (by
    rw [hW1]
    have h := caps_made HCQ.out 231 3
    exact ⟨h.c1, h.c2, h.c3⟩)
  rw [← hW1]
  clear hW1 hc2
  have HB01 : Hid (Below w0.heap.size w0 W1) := Lib.hid (HO.out.2.2.2.trans (HB1.out.mono HO.out.2.2.2.size))
  go_wp2_with (first
    | (go_at_call 262; refine (HIX.out _ HB01.out HCP.out).mono ?_; rintro e w2 ⟨rfl, hb⟩; have HB2 := Lib.hid hb; have HB02 := Lib.hid (HB01.out.trans (hb.mono HB01.out.size)); have d3 := cell_later HB02.out HD2.out; clear hb)
    | (go_at_call 114; refine (HSE.out _ HB02.out).mono ?_; rintro e w3 ⟨rfl, hb⟩; have HB3 := Lib.hid hb; have HB03 := Lib.hid (HB02.out.trans (hb.mono HB02.out.size)); clear hb))
  have HB23 := Lib.hid (HB1.out.trans ((HB2.out.trans (HB3.out.mono HB2.out.size)).mono HB1.out.size))
  have HB13 := Lib.hid (HB2.out.trans (HB3.out.mono HB2.out.size))
  have HO3 : Hid (OwnV w0.heap.size w0 g (ints L) w3) := Lib.hid (HO.out.later HB23.out (by intro h; have := congrArg List.length h; rw [ints_length, HLL.out] at this; simp at this))
  have HTH : Hid (∀ W, Below w3.heap.size w3 W → W.there g (4 + i * 30) 30) := Lib.hid (fun W hW => there_later' hW (fun j hj => ⟨by
      rw [HO3.out.1 (4 + i * 30 + j) (.int .i64 (L.getD (4 + i * 30 + j) 0)) (ints_get (by rw [List.getD_eq_getElem?_getD, List.getElem?_eq_getElem (by rw [HLL.out]; omega)]; rfl))]; rfl, HO3.out.2.1 _⟩) (Nat.lt_of_lt_of_le hglt HB23.out.size))
  have HS3 : Hid (∀ W, Below w3.heap.size w3 W → W.cell? ⟨w.heap.size, 0, none⟩ = some (.pointer (some ⟨g, 0, none⟩)) ∧ W.cell? ⟨w.heap.size + 1, 0, none⟩ = some (.int .i64 (i : Int)) ∧ W.cell? ⟨b, off + k * 2 + 1, none⟩ = some (.slice ad 64 c)) := Lib.hid (fun W hW => by
    have h := HCP.out.later (HB13.out.trans (hW.mono HB13.out.size))
    exact ⟨h.c1, h.c2, cell_later (HB03.out.trans (hW.mono HB03.out.size)) HD2.out⟩)
  have iP := iPage HL30.out
  have hN30 : (ints pg).length = 30 := by rw [ints_length, HL30.out]
  have hOne := ints_one pg
  have HK : Hid (∀ W, Below w3.heap.size w3 W → W.cell? ⟨w.heap.size, 0, none⟩ = some (.pointer (some ⟨g, 0, none⟩)) ∧ W.cell? ⟨w.heap.size + 1, 0, none⟩ = some (.int .i64 (i : Int)) ∧ W.cell? ⟨b, off + k * 2 + 1, none⟩ = some (.slice ad 64 c) ∧ W.there g (4 + i * 30) 30) := Lib.hid (fun W hW => by
    obtain ⟨s1, s2, s3⟩ := HS3.out W hW
    exact ⟨s1, s2, s3, HTH.out W hW⟩)
  have HKS : Hid (∀ W vs, Below w3.heap.size w3 W → (W.setCells g (4 + i * 30) vs).cell? ⟨w.heap.size, 0, none⟩ = some (.pointer (some ⟨g, 0, none⟩)) ∧ (W.setCells g (4 + i * 30) vs).cell? ⟨w.heap.size + 1, 0, none⟩ = some (.int .i64 (i : Int)) ∧ (W.setCells g (4 + i * 30) vs).cell? ⟨b, off + k * 2 + 1, none⟩ = some (.slice ad 64 c) ∧ (W.setCells g (4 + i * 30) vs).there g (4 + i * 30) 30) := Lib.hid (fun W vs hW => by
    obtain ⟨s1, s2, s3, s4⟩ := HK.out W hW
    have kp := Keeps.sets g vs (4 + i * 30) W
    have h1 := HBW.out
    have h2 := HGE.out
    refine ⟨?_, ?_, ?_, World.there_setCells s4 _ _ _⟩
    · rw [kp.cell (p := ⟨w.heap.size, 0, none⟩) (by show w.heap.size ≠ g; omega)]; exact s1
    · rw [kp.cell (p := ⟨w.heap.size + 1, 0, none⟩) (by show w.heap.size + 1 ≠ g; omega)]; exact s2
    · rw [kp.cell (p := ⟨b, off + k * 2 + 1, none⟩) (by show b ≠ g; omega)]; exact s3)
  go_region_held3 (fun W => W.cell? ⟨w.heap.size, 0, none⟩ = some (.pointer (some ⟨g, 0, none⟩)) ∧ W.cell? ⟨w.heap.size + 1, 0, none⟩ = some (.int .i64 (i : Int)) ∧ W.cell? ⟨b, off + k * 2 + 1, none⟩ = some (.slice ad 64 c) ∧ W.there g (4 + i * 30) 30) (first | exact HK.out _ ((Below.refl _ _).drew) | exact HK.out _ ((Below.refl _ _).drew.trans HB5.out) | exact HKS.out _ _ ((Below.refl _ _).drew.trans HB5.out)) ((go_at_call 264; refine (HRD.out _ HB03.out.drew).mono ?_; rintro e w5 ⟨rfl, hb⟩; have HB5 : Hid (Below w3.drew.heap.size w3.drew w5) := Lib.hid hb; clear hb))
  have HB35 := Lib.hid ((Below.refl w3.heap.size w3).drew.trans HB5.out)
  have HO6 : Hid (OwnV w0.heap.size w0 g (ints (lay L (4 + i * 30) pg)) (w5.setCells g (4 + i * 30) (ints pg))) := Lib.hid ((HO3.out.later HB35.out (by intro h; have := congrArg List.length h; rw [ints_length, HLL.out] at this; simp at this)).fillI pg L (4 + i * 30) w5 (by rw [HLL.out, HL30.out]; omega))
  have HS6 := Lib.hid (HKS.out w5 (ints pg) HB35.out)
  have HR6 : Hid ((w5.setCells g (4 + i * 30) (ints pg)).rangeAt g (4 + i * 30) (ints pg)) := Lib.hid (World.rangeAt_setCells_same _ _ _ _ (by rw [hN30]; exact HTH.out _ HB35.out))
  obtain ⟨W6, hW6⟩ : ∃ W6, W6 = w5.setCells g (4 + i * 30) (ints pg) := ⟨_, rfl⟩
  rw [← hW6] at HO6 HS6 HR6 ⊢
  clear hW6
  have hu := uPage
  have HK6 : Hid (∀ W, Below W6.heap.size W6 W → W.cell? ⟨w.heap.size, 0, none⟩ = some (.pointer (some ⟨g, 0, none⟩)) ∧ W.cell? ⟨w.heap.size + 1, 0, none⟩ = some (.int .i64 (i : Int)) ∧ W.rangeAt g (4 + i * 30) (ints pg)) := Lib.hid (fun W hW => ⟨cell_later hW HS6.out.1, cell_later hW HS6.out.2.1, fun j v hj => cell_later hW (HR6.out j v hj)⟩)
  go_wp2_with fail
  go_region_held3 (fun W => W.cell? ⟨w.heap.size, 0, none⟩ = some (.pointer (some ⟨g, 0, none⟩)) ∧ W.cell? ⟨w.heap.size + 1, 0, none⟩ = some (.int .i64 (i : Int)) ∧ W.rangeAt g (4 + i * 30) (ints pg)) (first | exact HK6.out _ ((Below.refl _ _).drew) | exact HK6.out _ ((Below.refl _ _).drew.trans HB7.out)) ((go_at_call 248; refine (HUS.out _).mono ?_; rintro e w7 ⟨rfl, hb⟩; have HB7 : Hid (Below W6.drew.heap.size W6.drew w7) := Lib.hid hb; clear hb))
  go_wp2_with fail
  go_ret
  exact ⟨rfl, HO6.out.later ((Below.refl _ _).drew.trans HB7.out) (by intro h; have := congrArg List.length h; rw [ints_length, lay_length, HLL.out] at this; simp at this)⟩

end Go.Proofs.YtmcblhgpcgnaoaaGreatDoor

