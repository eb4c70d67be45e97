/-
  Proved here: how the landed tree lays pointers into a chart (split), takes them out again (joined), and takes zeros at the end away (trimmed).
  The conditions stand at each theorem.
-/
import Derived.Test.YtmgmlebkmdpddaaTrParts
import Derived.Test.YtmgmlebkmdpddaaZero
namespace Go.Proofs.Ytmgmlebkmdpddaa
open Go.RowKit
set_option linter.unusedVariables false
set_option linter.unusedSimpArgs false

def spotsL : List (Nat × Nat) := [(0, 4), (4, 30), (64, 30), (94, 30), (124, 30)]
theorem partsV_map (g : Nat) : partsV g = spotsL.map (fun p => partV g p.1 p.2) := rfl
theorem spots_fit {i : Nat} {p : Nat × Nat} (h : spotsL[i]? = some p) : p.1 + p.2 ≤ 159 ∧ p.2 ≤ 30 := by
  have := List.mem_of_getElem? h
  simp only [spotsL, List.mem_cons, List.mem_nil_iff, or_false] at this
  rcases this with rfl | rfl | rfl | rfl | rfl <;> decide

/-- What a chart holds, and what is left of the pointers, when they were laid into these places. -/
def fillL (ps : List (Nat × Nat)) (s : List Int × List Int) : List Int × List Int := ps.foldl (fun s p => (lay s.1 p.1 (s.2.take p.2), s.2.drop p.2)) s
theorem fillL_snoc (ps : List (Nat × Nat)) (p : Nat × Nat) (s : List Int × List Int) : fillL (ps ++ [p]) s = (lay (fillL ps s).1 p.1 ((fillL ps s).2.take p.2), (fillL ps s).2.drop p.2) := by
  unfold fillL
  rw [List.foldl_append]
  rfl
theorem fillL_length (ps : List (Nat × Nat)) : ∀ s : List Int × List Int, (fillL ps s).1.length = s.1.length := by
  induction ps with
  | nil => intro s; rfl
  | cons p r ih => intro s; show (fillL r (lay s.1 p.1 (s.2.take p.2), s.2.drop p.2)).1.length = _; rw [ih]; exact lay_length _ _ _

/-- A chart that pointers were laid into. -/
def splitL (zs : List Int) : List Int := (fillL spotsL (List.replicate 159 0, zs)).1

/-- The row of the parts, in a block of its own. -/
def Row5 (w : World) (b g : Nat) : Prop := ∀ j u, (partsV g)[j]? = some u → w.cell? ⟨b, j, none⟩ = some u
theorem row5_of {w : World} {base g : Nat} {v : Value} (h : w.ownsRow base 34 1 v 5 (partsV g)) : ∃ b cap, v = .slice (some ⟨b, 0, none⟩) 5 cap ∧ base ≤ b ∧ Row5 w b g := by
  rcases h.2 with ⟨_, h0⟩ | ⟨b, cap, cur, hv, hb, _⟩
  · cases h0
  · refine ⟨b, cap, hv, hb, fun j u hj => ?_⟩
    have := h.cells (g := b) (by rw [hv]; rfl) j u hj
    rw [Go.WideShapes.add_plain] at this
    simpa using this
theorem Row5.keeps {w w' : World} {b g k : Nat} (h : Row5 w b g) (hk : Keeps k w w') (hb : b ≠ k) : Row5 w' b g := fun j u hj => by
  rw [hk.cell (p := ⟨b, j, none⟩) hb]
  exact h j u hj

/-- What is left of the pointers, as a slice. -/
def Rest (w : World) (v : Value) (zs : List Int) : Prop := ∃ ao len cap, v = .slice ao len cap ∧ IArg w ao len cap zs

theorem made_chart (w : World) : OwnV w.heap.size w w.heap.size (ints (List.replicate 159 0)) (w.alloc (.cells Try.zeroCells110 110)) := by
  have e : Try.zeroCells110 = (ints (List.replicate 159 0)).toArray := rfl
  refine ⟨fun j x hj => ?_, fun j => by rw [World.frozen?_alloc_mark]; simp, Nat.le_refl _, (Below.refl _ _).alloc (Nat.le_refl _) _⟩
  rw [World.cell?_alloc_new, e]
  simpa using hj

theorem IArg.dropAny {w : World} {ao : Option Addr} {len cap k : Nat} {zs : List Int} (h : IArg w ao len cap zs) (hk : k ≤ len) : cap = k → IArg w ao (len - k) (cap - k) (zs.drop k) := fun e => by
  have h1 := h.2.2.2
  have hl := h.len
  have hb := h.big
  have e2 : zs.drop k = [] := List.length_eq_zero_iff.1 (by rw [List.length_drop]; omega)
  rw [e2]
  refine ⟨⟨by show 0 = _; omega, by omega, Or.inl (by omega)⟩, by simp, fun _ => ⟨by omega, by omega⟩, by omega⟩

theorem rest_next {wr w5 : World} {g : Nat} {x : Addr} {rl rc m n : Nat} {F : List Int} (hR : IArg wr (some x) rl rc F) (hk : Keeps g wr w5) (hx : 0 < rl → x.block ≠ g) (hm : min rl n = m) (y : Addr) (hy : rc ≠ m → y = x.add m) : IArg w5 (some y) (rl - m) (rc - m) (F.drop n) := by
  have hl := hR.len
  have hb := hR.big
  have hc := hR.2.2.2
  by_cases h0 : rl - m = 0
  · have e : F.drop n = [] := List.length_eq_zero_iff.1 (by rw [List.length_drop]; omega)
    rw [e, h0]
    exact ⟨⟨rfl, by omega, Or.inl rfl⟩, by simp, (fun e => by cases e), by omega⟩
  · obtain rfl : m = n := by omega
    have hx2 : ∃ b off, x = ⟨b, off, none⟩ := by
      obtain ⟨b, off, he, _⟩ := hR.1.2.2.resolve_left (by omega)
      exact ⟨b, off, by simpa using he⟩
    obtain ⟨b, off, rfl⟩ := hx2
    rw [hy (by omega), Go.WideShapes.add_plain]
    exact hk.iarg (hR.drop (by omega)) (hx (by omega))

theorem add_blk (a : Addr) (j : Nat) : (a.add j).block = a.block := by
  unfold Addr.add
  split <;> rfl

/-- A chart, the row of its parts, and what is left, when i parts were laid. -/
def Laid (base : Nat) (w0 : World) (g b : Nat) (zs : List Int) (i : Nat) (v : Value) (wr : World) : Prop :=
  OwnV base w0 g (ints (fillL (spotsL.take i) (List.replicate 159 0, zs)).1) wr ∧ Row5 wr b g ∧ b ≠ g ∧ Rest wr v (fillL (spotsL.take i) (List.replicate 159 0, zs)).2 ∧ (∀ ao len cap, v = .slice (some ao) len cap → 0 < len → ao.block < base)

theorem Laid.next {base b g i : Nat} {w0 wr w5 : World} {zs F1 F2 : List Int} {o n : Nat} {v : Value} (hS : fillL (spotsL.take (i + 1)) (List.replicate 159 0, zs) = (lay F1 o (F2.take n), F2.drop n)) (hO : OwnV base w0 g (ints (lay F1 o (F2.take n))) w5) (h5 : Row5 wr b g) (hne : b ≠ g) (hk : Keeps g wr w5)
    (hR : Rest w5 v (F2.drop n)) (hbl : ∀ ao len cap, v = .slice (some ao) len cap → 0 < len → ao.block < base) : Laid base w0 g b zs (i + 1) v w5 := by
  unfold Laid
  rw [hS]
  exact ⟨hO, h5.keeps hk hne, hne, hR, hbl⟩

set_option maxRecDepth 100000 in
set_option maxHeartbeats 3200000 in
theorem split_any (ao : Option Addr) (len cap : Nat) (zs : List Int) (w : World) (hA : IArg w ao len cap zs) : Calls Try.prog 46 #[.slice ao len cap] w fun e w' => ∃ g, e = .returned (.pointer (some ⟨g, 0, none⟩)) ∧ OwnV w.heap.size w g (ints (splitL zs)) w' := by
  have HA := Lib.hid hA
  have HIN : Hid (∀ a, ao = some a → 0 < len → a.block < w.heap.size) := Lib.hid (fun a ha h0 => by
    obtain ⟨b, off, x, e, _, hc, _⟩ := hA.at h0
    rw [ha] at e
    cases e
    exact World.block_lt_of_cell? _ _ hc)
  have HM := Lib.hid (made_chart w)
  clear hA
  go_enter Try.func46, Try.ntmps46
  go_wp2_with (go_at_call 56; refine (parts_any _ _).mono ?_; rintro e w2 ⟨v, rfl, ho, hb⟩; obtain ⟨b, cb, rfl, hbb, h5⟩ := row5_of ho; have H5 := Lib.hid h5; have HB := Lib.hid hb; have HBB := Lib.hid hbb; clear ho hb hbb h5)
  have HL0 : Hid (Laid w.heap.size w w.heap.size b zs 0 (.slice ao len cap) w2) := Lib.hid (by
    refine ⟨HM.out.later HB.out (by simp [ints]), H5.out, ?_, ⟨ao, len, cap, rfl, (HA.out.later ((Below.refl _ _).alloc (Nat.le_refl _) _)).later HB.out⟩, ?_⟩
    · have := HBB.out
      simp at this
      omega
    · intro a l c e h0
      simp only [Value.slice.injEq] at e
      exact HIN.out a e.1 (by omega))
  go_loopw [0, 11] (fun v iv wr => ∃ i : Nat, iv = .int .i64 (i : Int) ∧ i ≤ 5 ∧ Hid (Laid w.heap.size w w.heap.size b zs i v wr)) (fun _ iv _ => 5 - (intOf iv).toNat)
  case atStart => exact ⟨0, rfl, Nat.zero_le _, HL0⟩
  case round =>
    obtain ⟨i, rfl, hi, HL⟩ := hrel
    by_cases hlt : i < 5
    · obtain ⟨⟨o, n⟩, hs⟩ : ∃ p, spotsL[i]? = some p := ⟨_, List.getElem?_eq_getElem hlt⟩
      have hfit := spots_fit hs
      dsimp only at hfit
      have d1 : wr.cell? ⟨b, i, none⟩ = some (.slice (some ⟨w.heap.size, o, none⟩) n n) := HL.out.2.1 i _ (by rw [partsV_map, List.getElem?_map, hs]; rfl)
      have i1 : (i : Int) < 5 := by omega
      have HS : Hid (fillL (spotsL.take (i + 1)) (List.replicate 159 0, zs) = (lay (fillL (spotsL.take i) (List.replicate 159 0, zs)).1 o ((fillL (spotsL.take i) (List.replicate 159 0, zs)).2.take n), (fillL (spotsL.take i) (List.replicate 159 0, zs)).2.drop n)) := Lib.hid (by
        rw [List.take_add_one, hs]
        exact fillL_snoc _ _ _)
      have hlen : (fillL (spotsL.take i) (List.replicate 159 0, zs)).1.length = 159 := by rw [fillL_length]; exact List.length_replicate
      obtain ⟨hO, h5, hne, ⟨ra, rl, rc, rfl, hR⟩, hbl⟩ := HL.out
      have HO := Lib.hid hO
      have HR := Lib.hid hR
      have H5 := Lib.hid h5
      have HBL := Lib.hid hbl
      have HC := own_copy_ints (off := o) (len := n) (cap := n) hO (by omega) ra rl rc _ hR 3
      generalize fillL (spotsL.take i) (List.replicate 159 0, zs) = F at *
      obtain ⟨F1, F2⟩ := F
      dsimp only at *
      have hle := hR.2.2.2
      obtain ⟨m, hm⟩ : ∃ m, min rl n = m := ⟨_, rfl⟩
      rw [hm] at HC
      have HMn := Lib.hid hm
      have m1 : (m : Int) ≤ (rl : Int) := by omega
      have m2 : (m : Int) ≤ (rc : Int) := by omega
      have m3 : m ≤ rl := by omega
      have m4 : m ≤ rc := by omega
      have HCC := Lib.hid HC
      clear hO hR h5 hbl HC hfit hlen hs hm
      cases ra with
      | none =>
        obtain ⟨rfl, rfl⟩ := HR.out.2.2.1 rfl
        obtain rfl : m = 0 := by omega
        go_wp2_with (refine wp_copy rfl (.tmp 16) (.tmp 17) 34 34 rfl _ _ rfl rfl _ HCC.out ?_; rintro v5 w5 ⟨rfl, hO5, hK5⟩; have HO5 := Lib.hid hO5; have HK5 := Lib.hid hK5; clear hO5 hK5)
        go_roundw
        case rel => exact ⟨i + 1, by go_num, by omega, Lib.hid (Laid.next HS.out HO5.out H5.out hne HK5.out ⟨none, 0, 0, rfl, by
          obtain rfl : F2 = [] := List.length_eq_zero_iff.1 HR.out.len
          rw [List.drop_nil]
          exact IArg.nil _⟩ (fun _ _ _ e => by cases e))⟩
        case measure => simp [intOf]; omega
      | some x =>
        have HX : Hid (0 < rl → x.block ≠ w.heap.size) := Lib.hid (fun h => by have := HBL.out x rl rc rfl h; omega)
        by_cases hc : rc = m
        · go_wp2_with (refine wp_copy rfl (.tmp 16) (.tmp 17) 34 34 rfl _ _ rfl rfl _ HCC.out ?_; rintro v5 w5 ⟨rfl, hO5, hK5⟩; have HO5 := Lib.hid hO5; have HK5 := Lib.hid hK5; clear hO5 hK5)
          go_roundw
          case rel => exact ⟨i + 1, by go_num, by omega, Lib.hid (Laid.next HS.out HO5.out H5.out hne HK5.out ⟨_, _, _, rfl, by
            have := rest_next HR.out HK5.out HX.out HMn.out x (fun h => absurd hc h)
            rwa [show rc - m = 0 by omega] at this⟩ (fun a _ _ e h0 => by
              simp only [Value.slice.injEq, Option.some.injEq] at e
              obtain ⟨rfl, e2, -⟩ := e
              exact HBL.out x rl rc rfl (by omega)))⟩
          case measure => simp [intOf]; omega
        · go_wp2_with (refine wp_copy rfl (.tmp 16) (.tmp 17) 34 34 rfl _ _ rfl rfl _ HCC.out ?_; rintro v5 w5 ⟨rfl, hO5, hK5⟩; have HO5 := Lib.hid hO5; have HK5 := Lib.hid hK5; clear hO5 hK5)
          go_roundw
          case rel => exact ⟨i + 1, by go_num, by omega, Lib.hid (Laid.next HS.out HO5.out H5.out hne HK5.out ⟨_, _, _, rfl, rest_next HR.out HK5.out HX.out HMn.out (x.add m) (fun _ => rfl)⟩ (fun a _ _ e h0 => by
              simp only [Value.slice.injEq, Option.some.injEq] at e
              obtain ⟨rfl, e2, -⟩ := e
              rw [add_blk]
              exact HBL.out x rl rc rfl (by omega)))⟩
          case measure => simp [intOf]; omega
    · obtain rfl : i = 5 := by omega
      go_wp2_with fail
      go_ret
      exact ⟨_, rfl, HL.out.1⟩

/-! ### Zeros at the end -/

theorem trim_take_zero {zs : List Int} {k : Nat} (hk : k + 1 ≤ zs.length) (h0 : zs[k]? = some 0) : trimL (zs.take (k + 1)) = trimL (zs.take k) := by
  rw [List.take_add_one, h0]
  exact trim_append_zeros _ 1
theorem trim_last {l : List Int} {x : Int} (hx : x ≠ 0) : trimL (l ++ [x]) = l ++ [x] := by
  induction l with
  | nil => show (if x = 0 ∧ trimL [] = [] then [] else x :: trimL []) = _; rw [if_neg (fun h => hx h.1)]; rfl
  | cons y r ih =>
    show (if y = 0 ∧ trimL (r ++ [x]) = [] then [] else y :: trimL (r ++ [x])) = _
    rw [ih, if_neg (fun h => by simp at h)]
    rfl
theorem trim_trim (l : List Int) : trimL (trimL l) = trimL l := by
  induction l with
  | nil => rfl
  | cons x r ih =>
    by_cases h : x = 0 ∧ trimL r = []
    · rw [show trimL (x :: r) = [] from if_pos h]; rfl
    · rw [show trimL (x :: r) = x :: trimL r from if_neg h]
      show (if x = 0 ∧ trimL (trimL r) = [] then [] else x :: trimL (trimL r)) = _
      rw [ih, if_neg h]
theorem trim_take {zs : List Int} : zs.take (trimL zs).length = trimL zs := by
  obtain ⟨n, h⟩ := trim_prefix zs
  conv => lhs; rw [h, trim_append_zeros]
  rw [trim_trim]
  exact List.take_left

def lenV : Value → Nat
  | .slice _ l _ => l
  | _ => 0

/-! ### Pointers out of a chart -/

def accL (L : List Int) (i : Nat) : List Int := (spotsL.take i).flatMap (fun p => (L.drop p.1).take p.2)
def joinL (L : List Int) : List Int := accL L 5
theorem acc_snoc {L : List Int} {i o n : Nat} (h : spotsL[i]? = some (o, n)) : accL L (i + 1) = accL L i ++ (L.drop o).take n := by
  unfold accL
  rw [List.take_add_one, h]
  simp

theorem lay_end (P cs : List Int) (k : Nat) (h : cs.length ≤ k) : lay (P ++ List.replicate k 0) P.length cs = (P ++ cs) ++ List.replicate (k - cs.length) 0 := by
  rw [lay_eq _ _ _ (by rw [List.length_append, List.length_replicate]; omega), List.take_left, ← List.drop_drop, List.drop_left, List.drop_replicate]

/-- The numbers that are being joined, and the row of the parts, when i parts were copied. -/
def Joining (w0 : World) (L : List Int) (g A b : Nat) (i at_ : Nat) (wr : World) : Prop :=
  OwnV w0.heap.size w0 A (ints (accL L i ++ List.replicate (124 - at_) 0)) wr ∧ Row5 wr b g ∧ b ≠ A ∧ (accL L i).length = at_

theorem Joining.next {w0 wr w5 : World} {L : List Int} {g A b i at_ o n k : Nat} (h : Joining w0 L g A b i at_ wr) (hs : spotsL[i]? = some (o, n)) (hL : L.length = 159) (hn : o + n ≤ 159) (hfit : at_ + n ≤ 124) (hkn : n ≤ k)
    (hO : OwnV w0.heap.size w0 A (ints (lay (accL L i ++ List.replicate (124 - at_) 0) at_ (((L.drop o).take n).take k))) w5) (hk : Keeps A wr w5) : Joining w0 L g A b (i + 1) (at_ + n) w5 := by
  obtain ⟨h1, h2, h3, h4⟩ := h
  have hl : ((L.drop o).take n).length = n := by rw [List.length_take, List.length_drop]; omega
  rw [List.take_of_length_le (by omega)] at hO
  rw [← h4, lay_end _ _ _ (by omega), hl, ← acc_snoc hs] at hO
  refine ⟨?_, h2.keeps hk h3, h3, ?_⟩
  · rw [show 124 - (at_ + n) = 124 - (accL L i).length - n by omega]
    exact hO
  · rw [acc_snoc hs, List.length_append, hl, h4]

theorem made_nums (w : World) : OwnV w.heap.size w w.heap.size (ints (List.replicate 124 0)) (w.alloc (.cells (madeCells #[Value.int .i64 0] 124) 3)) := by
  have e : madeCells #[Value.int .i64 0] 124 = (ints (List.replicate 124 0)).toArray := by kernel_rfl
  refine ⟨fun j x hj => ?_, fun j => by rw [World.frozen?_alloc_mark]; simp, Nat.le_refl _, (Below.refl _ _).alloc (Nat.le_refl _) _⟩
  rw [World.cell?_alloc_new, e]
  simpa using hj

end Go.Proofs.Ytmgmlebkmdpddaa

