/-
  Proved here: how the landed tree lays pointers into a chart (split), takes them out again (joined), and takes zeros at the end away (trimmed). The conditions stand at each theorem. Proved here: what the landed tree says of lists of numbers (apart): each is 0 or a data block, and none of these is there twice. The conditions stand at each theorem. Proved here: what the landed tree's Need answers. The conditions stand at each theorem. Proved here: how the landed tree writes a page into a block (write), and what it reads out of one (read). The conditions stand at each theorem. Proved here: how the landed tree gives each page that is needed a block (place). The conditions stand at each theorem.
-/
import Derived.Test.YtmcblhgpcgnaoaaGreatDoorNm9
import Derived.Test.YtmcblhgpcgnaoaaGreatDoorNm7
import Derived.Maps.OwnSet
import Derived.Deep.QuietTactic
import Derived.BigQuiet
import Derived.Test.YtmcblhgpcgnaoaaGreatDoorNm0
import Derived.Test.YtmcblhgpcgnaoaaGreatDoorNm1
import Derived.Laws.ResultCell
namespace Go.Proofs.YtmcblhgpcgnaoaaGreatDoor
open Go.RowKit
set_option linter.unusedVariables false
set_option linter.unusedSimpArgs false

def spotsL : List (Nat × Nat) := [(0, 4), (4, 30), (64, 30), (94, 30), (124, 30)]
theorem partsV_map (g : Nat) : partsVT g = spotsL.map (fun p => partV g p.1 p.2) := rfl
theorem spots_fit {i : Nat} {p : Nat × Nat} (h : spotsL[i]? = some p) : p.1 + p.2 ≤ 159 ∧ p.2 ≤ 30 := by
  have := List.mem_of_getElem? h
  simp only [spotsL, List.mem_cons, List.mem_nil_iff, or_false] at this
  rcases this with rfl | rfl | rfl | rfl | rfl <;> decide

/-- What a chart holds, and what is left of the pointers, when they were laid into these places. -/
def fillL (ps : List (Nat × Nat)) (s : List Int × List Int) : List Int × List Int := ps.foldl (fun s p => (lay s.1 p.1 (s.2.take p.2), s.2.drop p.2)) s
theorem fillL_snoc (ps : List (Nat × Nat)) (p : Nat × Nat) (s : List Int × List Int) : fillL (ps ++ [p]) s = (lay (fillL ps s).1 p.1 ((fillL ps s).2.take p.2), (fillL ps s).2.drop p.2) := by
  unfold fillL
  rw [List.foldl_append]
  rfl
theorem fillL_length (ps : List (Nat × Nat)) : ∀ s : List Int × List Int, (fillL ps s).1.length = s.1.length := by
  induction ps with
  | nil => intro s; rfl
  | cons p r ih => intro s; show (fillL r (lay s.1 p.1 (s.2.take p.2), s.2.drop p.2)).1.length = _; rw [ih]; exact lay_length _ _ _

/-- A chart that pointers were laid into. -/
def splitL (zs : List Int) : List Int := (fillL spotsL (List.replicate 159 0, zs)).1

/-- The row of the parts, in a block of its own. -/
def Row5 (w : World) (b g : Nat) : Prop := ∀ j u, (partsVT g)[j]? = some u → w.cell? ⟨b, j, none⟩ = some u
theorem row5_of {w : World} {base g : Nat} {v : Value} (h : w.ownsRow base 50 1 v 5 (partsVT g)) : ∃ b cap, v = .slice (some ⟨b, 0, none⟩) 5 cap ∧ base ≤ b ∧ Row5 w b g := by
  rcases h.2 with ⟨_, h0⟩ | ⟨b, cap, cur, hv, hb, _⟩
  · cases h0
  · refine ⟨b, cap, hv, hb, fun j u hj => ?_⟩
    have := h.cells (g := b) (by rw [hv]; rfl) j u hj
    rw [Go.WideShapes.add_plain] at this
    simpa using this
theorem Row5.keeps {w w' : World} {b g k : Nat} (h : Row5 w b g) (hk : Keeps k w w') (hb : b ≠ k) : Row5 w' b g := fun j u hj => by
  rw [hk.cell (p := ⟨b, j, none⟩) hb]
  exact h j u hj

/-- What is left of the pointers, as a slice. -/
def Rest (w : World) (v : Value) (zs : List Int) : Prop := ∃ ao len cap, v = .slice ao len cap ∧ IArg w ao len cap zs

theorem made_chart (w : World) : OwnV w.heap.size w w.heap.size (ints (List.replicate 159 0)) (w.alloc (.cells Tryz.zeroCells274 274)) := by
  have e : Tryz.zeroCells274 = (ints (List.replicate 159 0)).toArray := rfl
  refine ⟨fun j x hj => ?_, fun j => by rw [World.frozen?_alloc_mark]; simp, Nat.le_refl _, (Below.refl _ _).alloc (Nat.le_refl _) _⟩
  rw [World.cell?_alloc_new, e]
  simpa using hj

theorem rest_next {wr w5 : World} {g : Nat} {x : Addr} {rl rc m n : Nat} {F : List Int} (hR : IArg wr (some x) rl rc F) (hk : Keeps g wr w5) (hx : 0 < rl → x.block ≠ g) (hm : min rl n = m) (y : Addr) (hy : rc ≠ m → y = x.add m) : IArg w5 (some y) (rl - m) (rc - m) (F.drop n) := by
  have hl := hR.len
  have hb := hR.big
  have hc := hR.2.2.2
  by_cases h0 : rl - m = 0
  · have e : F.drop n = [] := List.length_eq_zero_iff.1 (by rw [List.length_drop]; omega)
    rw [e, h0]
    exact ⟨⟨rfl, by omega, Or.inl rfl⟩, by simp, (fun e => by cases e), by omega⟩
  · obtain rfl : m = n := by omega
    have hx2 : ∃ b off, x = ⟨b, off, none⟩ := by
      obtain ⟨b, off, he, _⟩ := hR.1.2.2.resolve_left (by omega)
      exact ⟨b, off, by simpa using he⟩
    obtain ⟨b, off, rfl⟩ := hx2
    rw [hy (by omega), Go.WideShapes.add_plain]
    exact hk.iarg (hR.drop (by omega)) (hx (by omega))

theorem add_blk (a : Addr) (j : Nat) : (a.add j).block = a.block := by
  unfold Addr.add
  split <;> rfl

/-- A chart, the row of its parts, and what is left, when i parts were laid. -/
def Laid (base : Nat) (w0 : World) (g b : Nat) (zs : List Int) (i : Nat) (v : Value) (wr : World) : Prop :=
  OwnV base w0 g (ints (fillL (spotsL.take i) (List.replicate 159 0, zs)).1) wr ∧ Row5 wr b g ∧ b ≠ g ∧ Rest wr v (fillL (spotsL.take i) (List.replicate 159 0, zs)).2 ∧ (∀ ao len cap, v = .slice (some ao) len cap → 0 < len → ao.block < base)

theorem Laid.next {base b g i : Nat} {w0 wr w5 : World} {zs F1 F2 : List Int} {o n : Nat} {v : Value} (hS : fillL (spotsL.take (i + 1)) (List.replicate 159 0, zs) = (lay F1 o (F2.take n), F2.drop n)) (hO : OwnV base w0 g (ints (lay F1 o (F2.take n))) w5) (h5 : Row5 wr b g) (hne : b ≠ g) (hk : Keeps g wr w5)
    (hR : Rest w5 v (F2.drop n)) (hbl : ∀ ao len cap, v = .slice (some ao) len cap → 0 < len → ao.block < base) : Laid base w0 g b zs (i + 1) v w5 := by
  unfold Laid
  rw [hS]
  exact ⟨hO, h5.keeps hk hne, hne, hR, hbl⟩

set_option maxRecDepth 100000 in
set_option maxHeartbeats 3200000 in
theorem split_any (ao : Option Addr) (len cap : Nat) (zs : List Int) (w : World) (hA : IArg w ao len cap zs) : Calls Tryz.prog 201 #[.slice ao len cap] w fun e w' => ∃ g, e = .returned (.pointer (some ⟨g, 0, none⟩)) ∧ OwnV w.heap.size w g (ints (splitL zs)) w' := by
  have HA := Lib.hid hA
  have HIN : Hid (∀ a, ao = some a → 0 < len → a.block < w.heap.size) := Lib.hid (fun a ha h0 => by
    obtain ⟨b, off, x, e, _, hc, _⟩ := hA.at h0
    rw [ha] at e
    cases e
    exact World.block_lt_of_cell? _ _ hc)
  have HM := Lib.hid (made_chart w)
  clear hA
  go_enter Tryz.func201, Tryz.ntmps201
  go_wp2_with (go_at_call 224; refine (parts_any _ _).mono ?_; rintro e w2 ⟨v, rfl, ho, hb⟩; obtain ⟨b, cb, rfl, hbb, h5⟩ := row5_of ho; have H5 := Lib.hid h5; have HB := Lib.hid hb; have HBB := Lib.hid hbb; clear ho hb hbb h5)
  have HL0 : Hid (Laid w.heap.size w w.heap.size b zs 0 (.slice ao len cap) w2) := Lib.hid (by
    refine ⟨HM.out.later HB.out (by simp [ints]), H5.out, ?_, ⟨ao, len, cap, rfl, (HA.out.later ((Below.refl _ _).alloc (Nat.le_refl _) _)).later HB.out⟩, ?_⟩
    · have := HBB.out
      simp at this
      omega
    · intro a l c e h0
      simp only [Value.slice.injEq] at e
      exact HIN.out a e.1 (by omega))
  go_loopw [0, 11] (fun v iv wr => ∃ i : Nat, iv = .int .i64 (i : Int) ∧ i ≤ 5 ∧ Hid (Laid w.heap.size w w.heap.size b zs i v wr)) (fun _ iv _ => 5 - (intOf iv).toNat)
  case atStart => exact ⟨0, rfl, Nat.zero_le _, HL0⟩
  case round =>
    obtain ⟨i, rfl, hi, HL⟩ := hrel
    by_cases hlt : i < 5
    · obtain ⟨⟨o, n⟩, hs⟩ : ∃ p, spotsL[i]? = some p := ⟨_, List.getElem?_eq_getElem hlt⟩
      have hfit := spots_fit hs
      dsimp only at hfit
      have d1 : wr.cell? ⟨b, i, none⟩ = some (.slice (some ⟨w.heap.size, o, none⟩) n n) := HL.out.2.1 i _ (by rw [partsV_map, List.getElem?_map, hs]; rfl)
      have i1 : (i : Int) < 5 := by omega
      have HS : Hid (fillL (spotsL.take (i + 1)) (List.replicate 159 0, zs) = (lay (fillL (spotsL.take i) (List.replicate 159 0, zs)).1 o ((fillL (spotsL.take i) (List.replicate 159 0, zs)).2.take n), (fillL (spotsL.take i) (List.replicate 159 0, zs)).2.drop n)) := Lib.hid (by
        rw [List.take_add_one, hs]
        exact fillL_snoc _ _ _)
      have hlen : (fillL (spotsL.take i) (List.replicate 159 0, zs)).1.length = 159 := by rw [fillL_length]; exact List.length_replicate
      obtain ⟨hO, h5, hne, ⟨ra, rl, rc, rfl, hR⟩, hbl⟩ := HL.out
      have HO := Lib.hid hO
      have HR := Lib.hid hR
      have H5 := Lib.hid h5
      have HBL := Lib.hid hbl
      have HC := own_copy_ints (off := o) (len := n) (cap := n) hO (by omega) ra rl rc _ hR 3
      generalize fillL (spotsL.take i) (List.replicate 159 0, zs) = F at *
      obtain ⟨F1, F2⟩ := F
      dsimp only at *
      have hle := hR.2.2.2
      obtain ⟨m, hm⟩ : ∃ m, min rl n = m := ⟨_, rfl⟩
      rw [hm] at HC
      have HMn := Lib.hid hm
      have m1 : (m : Int) ≤ (rl : Int) := by omega
      have m2 : (m : Int) ≤ (rc : Int) := by omega
      have m3 : m ≤ rl := by omega
      have m4 : m ≤ rc := by omega
      have HCC := Lib.hid HC
      clear hO hR h5 hbl HC hfit hlen hs hm
      cases ra with
      | none =>
        obtain ⟨rfl, rfl⟩ := HR.out.2.2.1 rfl
        obtain rfl : m = 0 := by omega
        go_wp2_with (refine wp_copy rfl (.tmp 16) (.tmp 17) 50 50 rfl _ _ rfl rfl _ HCC.out ?_; rintro v5 w5 ⟨rfl, hO5, hK5⟩; have HO5 := Lib.hid hO5; have HK5 := Lib.hid hK5; clear hO5 hK5)
        go_roundw
        case rel => exact ⟨i + 1, by go_num, by omega, Lib.hid (Laid.next HS.out HO5.out H5.out hne HK5.out ⟨none, 0, 0, rfl, by
          obtain rfl : F2 = [] := List.length_eq_zero_iff.1 HR.out.len
          rw [List.drop_nil]
          exact IArg.nil _⟩ (fun _ _ _ e => by cases e))⟩
        case measure => simp [intOf]; omega
      | some x =>
        have HX : Hid (0 < rl → x.block ≠ w.heap.size) := Lib.hid (fun h => by have := HBL.out x rl rc rfl h; omega)
        by_cases hc : rc = m
        · go_wp2_with (refine wp_copy rfl (.tmp 16) (.tmp 17) 50 50 rfl _ _ rfl rfl _ HCC.out ?_; rintro v5 w5 ⟨rfl, hO5, hK5⟩; have HO5 := Lib.hid hO5; have HK5 := Lib.hid hK5; clear hO5 hK5)
          go_roundw
          case rel => exact ⟨i + 1, by go_num, by omega, Lib.hid (Laid.next HS.out HO5.out H5.out hne HK5.out ⟨_, _, _, rfl, by
            have := rest_next HR.out HK5.out HX.out HMn.out x (fun h => absurd hc h)
            rwa [show rc - m = 0 by omega] at this⟩ (fun a _ _ e h0 => by
              simp only [Value.slice.injEq, Option.some.injEq] at e
              obtain ⟨rfl, e2, -⟩ := e
              exact HBL.out x rl rc rfl (by omega)))⟩
          case measure => simp [intOf]; omega
        · go_wp2_with (refine wp_copy rfl (.tmp 16) (.tmp 17) 50 50 rfl _ _ rfl rfl _ HCC.out ?_; rintro v5 w5 ⟨rfl, hO5, hK5⟩; have HO5 := Lib.hid hO5; have HK5 := Lib.hid hK5; clear hO5 hK5)
          go_roundw
          case rel => exact ⟨i + 1, by go_num, by omega, Lib.hid (Laid.next HS.out HO5.out H5.out hne HK5.out ⟨_, _, _, rfl, rest_next HR.out HK5.out HX.out HMn.out (x.add m) (fun _ => rfl)⟩ (fun a _ _ e h0 => by
              simp only [Value.slice.injEq, Option.some.injEq] at e
              obtain ⟨rfl, e2, -⟩ := e
              rw [add_blk]
              exact HBL.out x rl rc rfl (by omega)))⟩
          case measure => simp [intOf]; omega
    · obtain rfl : i = 5 := by omega
      go_wp2_with fail
      go_ret
      exact ⟨_, rfl, HL.out.1⟩

/-! ### Zeros at the end -/

theorem trim_take_zero {zs : List Int} {k : Nat} (hk : k + 1 ≤ zs.length) (h0 : zs[k]? = some 0) : trimL (zs.take (k + 1)) = trimL (zs.take k) := by
  rw [List.take_add_one, h0]
  exact trim_append_zeros _ 1
theorem trim_last {l : List Int} {x : Int} (hx : x ≠ 0) : trimL (l ++ [x]) = l ++ [x] := by
  induction l with
  | nil => show (if x = 0 ∧ trimL [] = [] then [] else x :: trimL []) = _; rw [if_neg (fun h => hx h.1)]; rfl
  | cons y r ih =>
    show (if y = 0 ∧ trimL (r ++ [x]) = [] then [] else y :: trimL (r ++ [x])) = _
    rw [ih, if_neg (fun h => by simp at h)]
    rfl
theorem trim_trim (l : List Int) : trimL (trimL l) = trimL l := by
  induction l with
  | nil => rfl
  | cons x r ih =>
    by_cases h : x = 0 ∧ trimL r = []
    · rw [show trimL (x :: r) = [] from if_pos h]; rfl
    · rw [show trimL (x :: r) = x :: trimL r from if_neg h]
      show (if x = 0 ∧ trimL (trimL r) = [] then [] else x :: trimL (trimL r)) = _
      rw [ih, if_neg h]
theorem trim_take {zs : List Int} : zs.take (trimL zs).length = trimL zs := by
  obtain ⟨n, h⟩ := trim_prefix zs
  conv => lhs; rw [h, trim_append_zeros]
  rw [trim_trim]
  exact List.take_left

def lenV : Value → Nat
  | .slice _ l _ => l
  | _ => 0

set_option maxRecDepth 100000 in
set_option maxHeartbeats 3200000 in
theorem trimmed_any (ao : Option Addr) (len cap : Nat) (zs : List Int) (w : World) (hA : IArg w ao len cap zs) : Calls Tryz.prog 173 #[.slice ao len cap] w fun e w' => e = .returned (.slice ao (trimL zs).length cap) ∧ w = w' := by
  have HA := Lib.hid hA
  have hb := hA.big
  have hc := hA.2.2.2
  have HN := Lib.hid hA.len
  clear hA
  go_enter Tryz.func173, Tryz.ntmps173
  go_wp2_with fail
  go_loopw [0] (fun v wr => ∃ k : Nat, v = .slice ao k cap ∧ k ≤ len ∧ Hid (trimL (zs.take k) = trimL zs) ∧ Hid (w = wr)) (fun v _ => lenV v)
  case atStart => exact ⟨len, rfl, Nat.le_refl _, Lib.hid (by rw [← HN.out, List.take_length]), Lib.hid rfl⟩
  case round =>
    obtain ⟨k, rfl, hk, HT, HW⟩ := hrel
    by_cases h0 : k = 0
    · subst h0
      have HE : Hid ((trimL zs).length = 0) := Lib.hid (by rw [← HT.out]; rfl)
      go_wp2_with fail
      go_ret
      exact ⟨by rw [HE.out]; rfl, HW.out⟩
    · obtain ⟨q, rfl⟩ : ∃ q, k = q + 1 := ⟨k - 1, by omega⟩
      obtain ⟨b, off, x, rfl, hx, hcell, hI⟩ := HA.out.at (i := q) (by omega)
      have hcell : wr.cell? ⟨b, off + q, none⟩ = some (.int .i64 x) := by rw [← HW.out]; exact hcell
      have k1 : (0 : Int) < ((q + 1 : Nat) : Int) := by omega
      have k2 : wrap64 (((q + 1 : Nat) : Int) - 1) = (q : Int) := by unfold wrap64; omega
      have HX := Lib.hid hx
      clear hx hI
      by_cases hx0 : x = 0
      · subst hx0
        have HT2 : Hid (trimL (zs.take q) = trimL zs) := Lib.hid (by rw [← trim_take_zero (by rw [HN.out]; omega) HX.out]; exact HT.out)
        go_wp2_with fail
        go_roundw
        case rel => exact ⟨q, by first | rfl | go_num, by omega, HT2, HW⟩
        case measure => simp [lenV]
      · have HE : Hid ((trimL zs).length = q + 1) := Lib.hid (by
          have h := HT.out
          rw [List.take_add_one, HX.out] at h
          rw [← h]
          show (trimL (zs.take q ++ [x])).length = _
          rw [trim_last hx0, List.length_append, List.length_take, HN.out]
          simp only [List.length_cons, List.length_nil]
          omega)
        go_wp2_with fail
        go_ret
        exact ⟨by rw [HE.out]; rfl, HW.out⟩


/-! ### Pointers out of a chart -/

def accL (L : List Int) (i : Nat) : List Int := (spotsL.take i).flatMap (fun p => (L.drop p.1).take p.2)
def joinL (L : List Int) : List Int := accL L 5
theorem acc_snoc {L : List Int} {i o n : Nat} (h : spotsL[i]? = some (o, n)) : accL L (i + 1) = accL L i ++ (L.drop o).take n := by
  unfold accL
  rw [List.take_add_one, h]
  simp

theorem lay_end (P cs : List Int) (k : Nat) (h : cs.length ≤ k) : lay (P ++ List.replicate k 0) P.length cs = (P ++ cs) ++ List.replicate (k - cs.length) 0 := by
  rw [lay_eq _ _ _ (by rw [List.length_append, List.length_replicate]; omega), List.take_left, ← List.drop_drop, List.drop_left, List.drop_replicate]

/-- The numbers that are being joined, and the row of the parts, when i parts were copied. -/
def Joining (w0 : World) (L : List Int) (g A b : Nat) (i at_ : Nat) (wr : World) : Prop :=
  OwnV w0.heap.size w0 A (ints (accL L i ++ List.replicate (124 - at_) 0)) wr ∧ Row5 wr b g ∧ b ≠ A ∧ (accL L i).length = at_

theorem Joining.next {w0 wr w5 : World} {L : List Int} {g A b i at_ o n k : Nat} (h : Joining w0 L g A b i at_ wr) (hs : spotsL[i]? = some (o, n)) (hL : L.length = 159) (hn : o + n ≤ 159) (hfit : at_ + n ≤ 124) (hkn : n ≤ k)
    (hO : OwnV w0.heap.size w0 A (ints (lay (accL L i ++ List.replicate (124 - at_) 0) at_ (((L.drop o).take n).take k))) w5) (hk : Keeps A wr w5) : Joining w0 L g A b (i + 1) (at_ + n) w5 := by
  obtain ⟨h1, h2, h3, h4⟩ := h
  have hl : ((L.drop o).take n).length = n := by rw [List.length_take, List.length_drop]; omega
  rw [List.take_of_length_le (by omega)] at hO
  rw [← h4, lay_end _ _ _ (by omega), hl, ← acc_snoc hs] at hO
  refine ⟨?_, h2.keeps hk h3, h3, ?_⟩
  · rw [show 124 - (at_ + n) = 124 - (accL L i).length - n by omega]
    exact hO
  · rw [acc_snoc hs, List.length_append, hl, h4]

theorem made_nums (w : World) : OwnV w.heap.size w w.heap.size (ints (List.replicate 124 0)) (w.alloc (.cells (madeCells #[Value.int .i64 0] 124) 3)) := by
  have e : madeCells #[Value.int .i64 0] 124 = (ints (List.replicate 124 0)).toArray := by kernel_rfl
  refine ⟨fun j x hj => ?_, fun j => by rw [World.frozen?_alloc_mark]; simp, Nat.le_refl _, (Below.refl _ _).alloc (Nat.le_refl _) _⟩
  rw [World.cell?_alloc_new, e]
  simpa using hj

set_option maxRecDepth 100000 in
set_option maxHeartbeats 6400000 in
theorem joined_any (g : Nat) (L : List Int) (w : World) (hC : ChartAt w g L) (hz : ∀ z ∈ L, I64 z) : Calls Tryz.prog 174 #[.pointer (some ⟨g, 0, none⟩)] w fun e w' => ∃ v, e = .returned v ∧ FreshI w' w.heap.size v (joinL L) ∧ Below w.heap.size w w' := by
  have HC := Lib.hid hC
  have HZ := Lib.hid hz
  have HM := Lib.hid (made_nums w)
  have hmk : (Instr.makeSlice 50 (.int .i64 124) (.int .i64 124)).run Tryz.prog w = .ok (.slice (some ⟨w.heap.size, 0, none⟩) 124 124) (w.alloc (.cells (madeCells #[Value.int .i64 0] 124) 3)) := run_make_vals elemI w 124 (by decide)
  have HLL := Lib.hid hC.1
  have HSRC : Hid (∀ (o n : Nat) (W : World), Below w.heap.size w W → o + n ≤ 159 → IArg W (some ⟨g, o, none⟩) n n ((L.drop o).take n)) := Lib.hid (fun o n W hW hon => by
    have hl : ((L.drop o).take n).length = n := by rw [List.length_take, List.length_drop]; have := hC.1; omega
    have := iarg_of_range (w := W) (b := g) (off := o) (cap := n) (zs := (L.drop o).take n) (range_part (fun j v hj => cell_later hW (hC.2 j v hj)) o n) (fun z hz' => hz z (List.mem_of_mem_drop (List.mem_of_mem_take hz'))) (by omega) (by omega)
    rwa [hl] at this)
  clear hC hz
  go_enter Tryz.func174, Tryz.ntmps174
  go_wp2_with (go_at_call 224; refine (parts_any _ _).mono ?_; rintro e w2 ⟨v, rfl, ho, hb⟩; obtain ⟨b, cb, rfl, hbb, h5⟩ := row5_of ho; have H5 := Lib.hid h5; have HB := Lib.hid hb; have HBB := Lib.hid hbb; clear ho hb hbb h5)
  have HJ0 : Hid (Joining w L g w.heap.size b 0 0 w2) := Lib.hid ⟨HM.out.later HB.out (by simp [ints]), H5.out, by have := HBB.out; simp at this; omega, rfl⟩
  go_loopw [4, 12] (fun v iv wr => ∃ i : Int, iv = .int .i64 i ∧ (0 ≤ i ∧ i ≤ 5) ∧ (i = 0 → v = .slice (some ⟨w.heap.size, 0, none⟩) (124 : Nat) (124 : Nat)) ∧ (i = 1 → v = .slice (some ⟨w.heap.size, 4, none⟩) (120 : Nat) (120 : Nat)) ∧ (i = 2 → v = .slice (some ⟨w.heap.size, 34, none⟩) (90 : Nat) (90 : Nat)) ∧ (i = 3 → v = .slice (some ⟨w.heap.size, 64, none⟩) (60 : Nat) (60 : Nat)) ∧ (i = 4 → v = .slice (some ⟨w.heap.size, 94, none⟩) (30 : Nat) (30 : Nat)) ∧ Hid (Joining w L g w.heap.size b i.toNat ((if i = 0 then 0 else (30 * i - 26).toNat)) wr)) (fun _ iv _ => 5 - (intOf iv).toNat)
  case atStart => exact ⟨0, rfl, by decide, fun _ => rfl, (fun h => by cases h), (fun h => by cases h), (fun h => by cases h), (fun h => by cases h), HJ0⟩
  case round =>
    obtain ⟨i, rfl, hi, hv0, hv1, hv2, hv3, hv4, HJ⟩ := hrel
    by_cases hlt : i < 5
    · obtain rfl | rfl | rfl | rfl | rfl : i = 0 ∨ i = 1 ∨ i = 2 ∨ i = 3 ∨ i = 4 := by omega
      · obtain rfl := hv0 rfl
        clear hv0 hv1 hv2 hv3 hv4
        have HJ : Hid (Joining w L g w.heap.size b 0 0 wr) := HJ
        have d1 : wr.cell? ⟨b, 0, none⟩ = some (.slice (some ⟨g, 0, none⟩) ((4 : Nat)) ((4 : Nat))) := HJ.out.2.1 0 _ rfl
        have hl : (accL L 0 ++ List.replicate (124 - 0) 0).length = 124 := by rw [List.length_append, HJ.out.2.2.2, List.length_replicate]
        have HCC := Lib.hid (own_copy_ints (off := 0) (len := 124) (cap := 124) HJ.out.1 (by rw [hl]; decide) _ _ _ _ (HSRC.out 0 4 wr HJ.out.1.2.2.2 (by decide)) 3)
        clear hl
        go_wp2_with (refine wp_copy rfl (.tmp 17) (.tmp 18) 50 50 rfl _ _ rfl rfl _ HCC.out ?_; rintro v5 w5 ⟨rfl, hO5, hK5⟩; have HO5 := Lib.hid hO5; have HK5 := Lib.hid hK5; clear hO5 hK5)
        go_roundw
        case rel => exact ⟨1, rfl, by decide, (fun h => by first | rfl | exact absurd h (by decide)), (fun h => by first | rfl | exact absurd h (by decide)), (fun h => by first | rfl | exact absurd h (by decide)), (fun h => by first | rfl | exact absurd h (by decide)), (fun h => by first | rfl | exact absurd h (by decide)), Lib.hid (HJ.out.next rfl HLL.out (by decide) (by decide) (by decide) HO5.out HK5.out)⟩
        case measure => simp [intOf]
      · obtain rfl := hv1 rfl
        clear hv0 hv1 hv2 hv3 hv4
        have HJ : Hid (Joining w L g w.heap.size b 1 4 wr) := HJ
        have d1 : wr.cell? ⟨b, 1, none⟩ = some (.slice (some ⟨g, 4, none⟩) ((30 : Nat)) ((30 : Nat))) := HJ.out.2.1 1 _ rfl
        have hl : (accL L 1 ++ List.replicate (124 - 4) 0).length = 124 := by rw [List.length_append, HJ.out.2.2.2, List.length_replicate]
        have HCC := Lib.hid (own_copy_ints (off := 4) (len := 120) (cap := 120) HJ.out.1 (by rw [hl]; decide) _ _ _ _ (HSRC.out 4 30 wr HJ.out.1.2.2.2 (by decide)) 3)
        clear hl
        go_wp2_with (refine wp_copy rfl (.tmp 17) (.tmp 18) 50 50 rfl _ _ rfl rfl _ HCC.out ?_; rintro v5 w5 ⟨rfl, hO5, hK5⟩; have HO5 := Lib.hid hO5; have HK5 := Lib.hid hK5; clear hO5 hK5)
        go_roundw
        case rel => exact ⟨2, rfl, by decide, (fun h => by first | rfl | exact absurd h (by decide)), (fun h => by first | rfl | exact absurd h (by decide)), (fun h => by first | rfl | exact absurd h (by decide)), (fun h => by first | rfl | exact absurd h (by decide)), (fun h => by first | rfl | exact absurd h (by decide)), Lib.hid (HJ.out.next rfl HLL.out (by decide) (by decide) (by decide) HO5.out HK5.out)⟩
        case measure => simp [intOf]
      · obtain rfl := hv2 rfl
        clear hv0 hv1 hv2 hv3 hv4
        have HJ : Hid (Joining w L g w.heap.size b 2 34 wr) := HJ
        have d1 : wr.cell? ⟨b, 2, none⟩ = some (.slice (some ⟨g, 64, none⟩) ((30 : Nat)) ((30 : Nat))) := HJ.out.2.1 2 _ rfl
        have hl : (accL L 2 ++ List.replicate (124 - 34) 0).length = 124 := by rw [List.length_append, HJ.out.2.2.2, List.length_replicate]
        have HCC := Lib.hid (own_copy_ints (off := 34) (len := 90) (cap := 90) HJ.out.1 (by rw [hl]; decide) _ _ _ _ (HSRC.out 64 30 wr HJ.out.1.2.2.2 (by decide)) 3)
        clear hl
        go_wp2_with (refine wp_copy rfl (.tmp 17) (.tmp 18) 50 50 rfl _ _ rfl rfl _ HCC.out ?_; rintro v5 w5 ⟨rfl, hO5, hK5⟩; have HO5 := Lib.hid hO5; have HK5 := Lib.hid hK5; clear hO5 hK5)
        go_roundw
        case rel => exact ⟨3, rfl, by decide, (fun h => by first | rfl | exact absurd h (by decide)), (fun h => by first | rfl | exact absurd h (by decide)), (fun h => by first | rfl | exact absurd h (by decide)), (fun h => by first | rfl | exact absurd h (by decide)), (fun h => by first | rfl | exact absurd h (by decide)), Lib.hid (HJ.out.next rfl HLL.out (by decide) (by decide) (by decide) HO5.out HK5.out)⟩
        case measure => simp [intOf]
      · obtain rfl := hv3 rfl
        clear hv0 hv1 hv2 hv3 hv4
        have HJ : Hid (Joining w L g w.heap.size b 3 64 wr) := HJ
        have d1 : wr.cell? ⟨b, 3, none⟩ = some (.slice (some ⟨g, 94, none⟩) ((30 : Nat)) ((30 : Nat))) := HJ.out.2.1 3 _ rfl
        have hl : (accL L 3 ++ List.replicate (124 - 64) 0).length = 124 := by rw [List.length_append, HJ.out.2.2.2, List.length_replicate]
        have HCC := Lib.hid (own_copy_ints (off := 64) (len := 60) (cap := 60) HJ.out.1 (by rw [hl]; decide) _ _ _ _ (HSRC.out 94 30 wr HJ.out.1.2.2.2 (by decide)) 3)
        clear hl
        go_wp2_with (refine wp_copy rfl (.tmp 17) (.tmp 18) 50 50 rfl _ _ rfl rfl _ HCC.out ?_; rintro v5 w5 ⟨rfl, hO5, hK5⟩; have HO5 := Lib.hid hO5; have HK5 := Lib.hid hK5; clear hO5 hK5)
        go_roundw
        case rel => exact ⟨4, rfl, by decide, (fun h => by first | rfl | exact absurd h (by decide)), (fun h => by first | rfl | exact absurd h (by decide)), (fun h => by first | rfl | exact absurd h (by decide)), (fun h => by first | rfl | exact absurd h (by decide)), (fun h => by first | rfl | exact absurd h (by decide)), Lib.hid (HJ.out.next rfl HLL.out (by decide) (by decide) (by decide) HO5.out HK5.out)⟩
        case measure => simp [intOf]
      · obtain rfl := hv4 rfl
        clear hv0 hv1 hv2 hv3 hv4
        have HJ : Hid (Joining w L g w.heap.size b 4 94 wr) := HJ
        have d1 : wr.cell? ⟨b, 4, none⟩ = some (.slice (some ⟨g, 124, none⟩) ((30 : Nat)) ((30 : Nat))) := HJ.out.2.1 4 _ rfl
        have hl : (accL L 4 ++ List.replicate (124 - 94) 0).length = 124 := by rw [List.length_append, HJ.out.2.2.2, List.length_replicate]
        have HCC := Lib.hid (own_copy_ints (off := 94) (len := 30) (cap := 30) HJ.out.1 (by rw [hl]; decide) _ _ _ _ (HSRC.out 124 30 wr HJ.out.1.2.2.2 (by decide)) 3)
        clear hl
        go_wp2_with (refine wp_copy rfl (.tmp 17) (.tmp 18) 50 50 rfl _ _ rfl rfl _ HCC.out ?_; rintro v5 w5 ⟨rfl, hO5, hK5⟩; have HO5 := Lib.hid hO5; have HK5 := Lib.hid hK5; clear hO5 hK5)
        go_roundw
        case rel => exact ⟨5, rfl, by decide, (fun h => by first | rfl | exact absurd h (by decide)), (fun h => by first | rfl | exact absurd h (by decide)), (fun h => by first | rfl | exact absurd h (by decide)), (fun h => by first | rfl | exact absurd h (by decide)), (fun h => by first | rfl | exact absurd h (by decide)), Lib.hid (HJ.out.next rfl HLL.out (by decide) (by decide) (by decide) HO5.out HK5.out)⟩
        case measure => simp [intOf]
    · obtain rfl : i = 5 := by omega
      have HJ : Hid (Joining w L g w.heap.size b 5 124 wr) := HJ
      have HF : Hid (FreshI wr w.heap.size (.slice (some ⟨w.heap.size, 0, none⟩) (124 : Nat) (124 : Nat)) (joinL L)) := Lib.hid (by
        obtain ⟨j1, j2, j3, j4⟩ := HJ.out
        have hl : (joinL L).length = 124 := j4
        have e : accL L 5 ++ List.replicate (124 - 124) 0 = joinL L := List.append_nil _
        rw [e] at j1
        have hzz : ∀ z ∈ joinL L, I64 z := fun z hz => by
          unfold joinL accL at hz
          obtain ⟨p, _, hp⟩ := List.mem_flatMap.1 hz
          exact HZ.out z (List.mem_of_mem_drop (List.mem_of_mem_take hp))
        have := iarg_of_range (cap := 124) (own_range j1) hzz (by omega) (by omega)
        rw [hl] at this
        exact ⟨_, 124, by rw [hl], by rw [hl]; exact this, Or.inr ⟨_, 0, rfl, Nat.le_refl _⟩⟩)
      clear hv0 hv1 hv2 hv3 hv4
      go_wp2_with fail
      go_ret
      exact ⟨_, rfl, HF.out, HJ.out.1.2.2.2⟩

end Go.Proofs.YtmcblhgpcgnaoaaGreatDoor


namespace Go.Proofs.YtmcblhgpcgnaoaaGreatDoor
open Go.RowKit
set_option linter.unusedVariables false
set_option linter.unusedSimpArgs false

theorem apart_snoc (l : List Int) (x : Int) : apartL (l ++ [x]) = (apartL l && (decide (x = 0) || (decide (59 ≤ x ∧ x ≤ 479) && !decide (x ∈ l)))) := by
  by_cases hx : x = 0
  · subst hx
    have := apart_zeros (a := l) 1
    rw [show List.replicate 1 (0 : Int) = [0] from rfl] at this
    rw [this]
    simp
  · have e : nzL [x] = [x] := by unfold nzL nzB; simp [hx]
    have hm : x ∈ nzL l ↔ x ∈ l := by
      unfold nzL
      rw [List.mem_filter]
      unfold nzB
      simp [hx]
    unfold apartL
    rw [nz_append, e, List.all_append, decide_eq_false hx, Bool.false_or, Bool.eq_iff_iff]
    simp only [Bool.and_eq_true, decide_eq_true_eq, List.all_cons, List.all_nil, and_true, Bool.not_eq_true', decide_eq_false_iff_not]
    rw [List.nodup_append]
    have hok : okP x = true ↔ 59 ≤ x ∧ x ≤ 479 := by unfold okP; simp [hx]
    rw [hok]
    constructor
    · rintro ⟨⟨h1, h2⟩, h3, h4, h5⟩
      exact ⟨⟨h1, h3⟩, h2, fun hl => h5 x (hm.2 hl) x (by simp) rfl⟩
    · rintro ⟨⟨h1, h3⟩, h2, h4⟩
      refine ⟨⟨h1, h2⟩, h3, by simp, fun a ha b hb e => ?_⟩
      rw [List.mem_singleton] at hb
      rw [hb] at e
      rw [e] at ha
      exact h4 (hm.1 ha)

theorem apart_take {l : List Int} {i : Nat} (h : apartL (l.take i) = false) : apartL l = false := by
  rw [← Bool.not_eq_true] at h ⊢
  intro hl
  rw [← List.take_append_drop i l] at hl
  exact h (apart_append hl).1

theorem IArg.grown {w w' : World} {b off len cap k : Nat} {zs : List Int} (h : IArg w (some ⟨b, off, none⟩) len cap zs) (hg : w.grownBy w' (some k)) (hb : b ≠ k) : IArg w' (some ⟨b, off, none⟩) len cap zs := by
  refine ⟨⟨h.1.1, h.1.2.1, ?_⟩, h.2⟩
  rcases h.1.2.2 with h0 | ⟨b', o', he, hc⟩
  · exact Or.inl h0
  · simp only [Option.some.injEq, Addr.mk.injEq, and_true] at he
    obtain ⟨rfl, rfl⟩ := he
    exact Or.inr ⟨b, off, rfl, fun j x hj => hg.cell (hc j x hj) (fun e => hb (by simpa using e))⟩

/-- Block b is a map that says of each number how often it was seen. -/
def SeenIs (w : World) (b n : Nat) (f : Int → Int) : Prop :=
  ∃ D : DataW Unit, w.ownsMap Tryz.prog 3 (plainElem Tryz.prog 3) b n D ∧ ∀ p, D.atKey (.int .i64 p) (.lit (.int .i64 0)) = .lit (.int .i64 (f p))

theorem SeenIs.kept {w w' : World} {b n : Nat} {f : Int → Int} (h : SeenIs w b n f) (hb : Below w.heap.size w w') : SeenIs w' b n f := by
  obtain ⟨D, h1, h2⟩ := h
  exact ⟨D, h1.kept (row := none) ⟨hb.os, hb.tape, hb.output, hb.size, fun k hk _ => hb.block k hk⟩ (by simp), h2⟩
theorem SeenIs.made (w : World) : SeenIs (w.alloc (.map #[] 0)) w.heap.size 0 (fun _ => 0) :=
  ⟨_, World.ownsMap_made _ _ _ _, fun p => rfl⟩
theorem SeenIs.lt {w : World} {b n : Nat} {f : Int → Int} (h : SeenIs w b n f) : b < w.heap.size := h.choose_spec.1.lt
theorem SeenIs.congr {w : World} {b n : Nat} {f g : Int → Int} (h : SeenIs w b n f) (e : ∀ p, g p = f p) : SeenIs w b n g := by
  obtain ⟨D, h1, h2⟩ := h
  exact ⟨D, h1, fun p => by rw [e]; exact h2 p⟩

theorem seenKeyed : Maps.Keyed Tryz.prog 3 := Maps.int_keyed Tryz.underlying3
theorem seen_zero (w : World) : (zeroValue 3).run Tryz.prog w = .ok (.int .i64 0) w := by kernel_rfl
theorem wf64 {p : Int} (h : I64 p) : (Lit.int .i64 p).wf = true := by
  unfold I64 at h
  simp [Lit.wf, IntKind.min, IntKind.max, IntKind.bits, IntKind.signed]
  omega
theorem key_i64 {p : Int} (h : I64 p) : keyOf Tryz.prog 3 (.int .i64 p) = some (.int .i64 p) := Maps.keyOf_int_mk Tryz.underlying3 (wf64 h)

section
variable {ops : Array Oper} {rest : List Oper} {o : Oper} {a : Act} {w : World} {Q : Exit → Act → World → Prop}

/-- How often was a number seen? -/
theorem wp_seen_look (hgd : o.guard = none) (m x : Operand) (hop : o.op = Op.lookup 291 m x false) (b n : Nat) (f : Int → Int) (hm : a.eval m = .map (some b)) (h : SeenIs w b n f)
    (p : Int) (hx : a.eval x = .int .i64 p) (hp : I64 p) (c : Int) (hc : f p = c)
    (hK : wpList Tryz.prog ops Q rest (a.put o.dst (.int .i64 c)) w) : wpList Tryz.prog ops Q (o :: rest) a w := by
  obtain ⟨D, h1, h2⟩ := h
  refine wpList_lookup_own_int w hgd m x _ hop _ _ .i64 seenKeyed Tryz.underlying291 Tryz.underlying3 (seen_zero w) b n D hm h1 (.int .i64 p) (.int .i64 p) hx (key_i64 hp) (fun c' hat _ => ?_)
  rw [h2 p] at hat
  simp only [DataW.lit.injEq, Lit.int.injEq, true_and] at hat
  rw [← hat, hc]
  exact hK

/-- A number is seen so often. -/
theorem wp_seen_put (hgd : o.guard = none) (m x v : Operand) (hop : o.op = Op.mapUpdate 291 m x v) (base b n : Nat) (f : Int → Int) (hm : a.eval m = .map (some b)) (h : SeenIs w b n f)
    (p : Int) (hx : a.eval x = .int .i64 p) (hp : I64 p) (c : Int) (hv : a.eval v = .int .i64 c) (hc : I64 c) (hn : n ≤ 100000) (hb : base ≤ b)
    (hK : ∀ w', SeenIs w' b (n + 1) (fun q => if q = p then c else f q) → Below base w w' → w.grownBy w' (some b) → wpList Tryz.prog ops Q rest (a.put o.dst undef) w') : wpList Tryz.prog ops Q (o :: rest) a w := by
  have hlt := h.lt
  obtain ⟨D, h1, h2⟩ := h
  refine wpList_mapUpdate_own w hgd m x v _ hop _ _ seenKeyed Tryz.underlying291 (plainElem Tryz.prog 3) b n D hm h1 (by unfold maxLen; omega) (.int .i64 p) _ (.int .i64 p) hx hv (key_i64 hp) (.lit (.int .i64 c)) [] (plainElem_int Tryz.underlying3 (wf64 hc)) (fun w' h3 h4 => ?_)
  refine hK w' ⟨_, h3, fun q => ?_⟩ ((Below.refl base w).grown h4 (by omega) (fun j hj => by cases hj; exact hb)) h4
  by_cases e : q = p
  · subst e
    show _ = DataW.lit (.int .i64 (if q = q then c else f q))
    rw [if_pos rfl]
    exact Maps.atKey_put_same h1.isMap (show WideAt.IsKeyLit (.int .i64 q) from trivial) _ _
  · have hne : (Lit.int .i64 q) ≠ Lit.int .i64 p := fun he => e (by cases he; rfl)
    show _ = DataW.lit (.int .i64 (if q = p then c else f q))
    rw [if_neg e, Maps.atKey_put_other hne]
    exact h2 q
end


set_option maxRecDepth 100000 in
set_option maxHeartbeats 6400000 in
theorem apart_any (b off n cap : Nat) (ls : List (List Int)) (w : World) (hn : ls.length = n) (hL : ListsIn w b off ls) (h100 : lenL ls ≤ 10000) (hn100 : n ≤ 100) : Calls Tryz.prog 176 #[.slice (some ⟨b, off, none⟩) n cap] w fun e w' => e = .returned (.bool (apartL ls.flatten)) ∧ Below w.heap.size w w' := by
  have HL := Lib.hid hL
  have H100 := Lib.hid h100
  have hm : (Instr.makeMap 291 none).run Tryz.prog w = .ok (.map (some w.heap.size)) (w.alloc (.map #[] 0)) := run_makeMap _ _
  have HZ : Hid (∀ z ∈ ls.flatten, I64 z) := Lib.hid (fun z hz => by
    obtain ⟨l, hl, hzl⟩ := List.mem_flatten.1 hz
    obtain ⟨i, hi, rfl⟩ := List.mem_iff_getElem.1 hl
    obtain ⟨a, l', c, _, d2⟩ := hL i _ (List.getElem?_eq_getElem hi)
    exact d2.2.1 z hzl)
  have HFL : Hid (ls.flatten.length = lenL ls) := Lib.hid (by unfold lenL; rw [List.length_flatten])
  have cC := Concat_any b off n cap ls (w.alloc (.map #[] 0)) hn (hL.later ((Below.refl _ _).alloc (Nat.le_refl _) _)) h100 hn100
  obtain ⟨T, hT⟩ : ∃ T, lenL ls = T := ⟨_, rfl⟩
  obtain ⟨F, hF⟩ : ∃ F, ls.flatten = F := ⟨_, rfl⟩
  rw [hT] at cC HFL H100
  rw [hF] at cC HFL HZ
  rw [hF]
  clear hL h100 hT hF HL
  go_enter Tryz.func176, Tryz.ntmps176
  go_wp2_with (go_at_call 136; refine cC.mono ?_; rintro e w2 ⟨v, rfl, ho, hb⟩; obtain ⟨ra, rc, rfl⟩ := owns_shape_r ho; have HO := Lib.hid ho; have HB := Lib.hid hb; clear ho hb)
  have HF1 : Hid (IArg w2 ra T rc F) := Lib.hid (by
    obtain ⟨ao, c, h1, h2, _⟩ := fresh_of_ints HO.out HZ.out (by have := H100.out; omega)
    rw [HFL.out] at h1 h2
    simp only [Value.slice.injEq, true_and] at h1
    obtain ⟨rfl, rfl⟩ := h1
    exact h2)
  have HRB : Hid (∀ a, ra = some a → a.block ≠ w.heap.size) := Lib.hid (fun a ha => by
    rcases HO.out.2 with ⟨hv, _⟩ | ⟨g, c, cur, hv, hg, _⟩
    · rw [ha] at hv; cases hv
    · rw [ha] at hv
      simp only [Value.slice.injEq, Option.some.injEq] at hv
      rw [hv.1]
      simp at hg
      show g ≠ _
      omega)
  have HS0 : Hid (SeenIs w2 w.heap.size 0 (fun p => if p ≠ 0 ∧ p ∈ F.take 0 then 1 else 0)) := Lib.hid (((SeenIs.made w).kept HB.out).congr (fun p => by simp))
  have HB0 : Hid (Below w.heap.size w w2) := Lib.hid (((Below.refl _ _).alloc (Nat.le_refl _) _).trans (HB.out.mono (by simp)))
  have hT := H100.out
  go_loopw [10] (fun iv wr => ∃ i : Nat, iv = .int .i64 (i : Int) ∧ i ≤ T ∧ Hid (∃ k, k ≤ i ∧ SeenIs wr w.heap.size k (fun p => if p ≠ 0 ∧ p ∈ F.take i then 1 else 0)) ∧ Hid (Below w.heap.size w wr) ∧ Hid (IArg wr ra T rc F) ∧ Hid (apartL (F.take i) = true)) (fun iv _ => T - (intOf iv).toNat)
  case atStart => exact ⟨0, rfl, Nat.zero_le _, Lib.hid ⟨0, Nat.le_refl _, HS0.out⟩, HB0, HF1, Lib.hid rfl⟩
  case round =>
    obtain ⟨i, rfl, hi, HS, HBR, HA, HP⟩ := hrel
    by_cases hlt : i < T
    · obtain ⟨fb, fo, x, rfl, hx, d1, hI⟩ := HA.out.at hlt
      have HX := Lib.hid hx
      have HI := Lib.hid hI
      have i1 : (i : Int) < (T : Int) := by omega
      have HSN : Hid (F.take (i + 1) = F.take i ++ [x]) := Lib.hid (by rw [List.take_add_one, hx]; rfl)
      have HAP := Lib.hid (apart_snoc (F.take i) x)
      clear hx hI
      by_cases h0 : x = 0
      · subst h0
        have HP2 : Hid (apartL (F.take (i + 1)) = true) := Lib.hid (by rw [HSN.out, HAP.out, HP.out]; rfl)
        have HS2 : Hid (∃ k, k ≤ i + 1 ∧ SeenIs wr w.heap.size k (fun p => if p ≠ 0 ∧ p ∈ F.take (i + 1) then 1 else 0)) := Lib.hid (by
          obtain ⟨k, hk, hs⟩ := HS.out
          refine ⟨k, by omega, hs.congr (fun p => ?_)⟩
          rw [HSN.out]
          by_cases hp : p = 0
          · simp [hp]
          · simp [hp])
        go_wp2_with fail
        go_roundw
        case rel => exact ⟨i + 1, by go_num, by omega, HS2, HBR, HA, HP2⟩
        case measure => simp [intOf]; omega
      · have b0 : (x == 0) = false := by simpa using h0
        obtain ⟨k, hk, hs⟩ := HS.out
        have HSS := Lib.hid hs
        obtain ⟨c, hc⟩ : ∃ c, (fun p => if p ≠ 0 ∧ p ∈ F.take i then (1 : Int) else 0) x = c := ⟨_, rfl⟩
        have HC := Lib.hid hc
        clear hs
        have hc01 : c = if x ∈ F.take i then 1 else 0 := by rw [← hc]; simp [h0]
        have hci : 0 ≤ c ∧ c ≤ 1 := by rw [hc01]; split <;> omega
        have c1 : wrap64 (c + 1) = c + 1 := by unfold wrap64; omega
        have HCI : Hid (I64 (c + 1)) := Lib.hid (by unfold I64; omega)
        have HPUT : Hid ((fun q => if q = x then c + 1 else (fun p => if p ≠ 0 ∧ p ∈ F.take i then (1 : Int) else 0) q) x = c + 1) := Lib.hid (by simp)
        have HBAD : Hid (apartL (F.take i ++ [x]) = false → apartL F = false) := Lib.hid (fun h => apart_take (i := i + 1) (by rw [HSN.out]; exact h))
        clear hc
        by_cases hm : x ∈ F.take i
        · rw [if_pos hm] at hc01
          subst hc01
          have HFA : Hid (apartL F = false) := Lib.hid (HBAD.out (by rw [HAP.out, HP.out, decide_eq_false h0, decide_eq_true hm]; simp))
          clear hm hci h0
          go_wp2_with (first | (at_lookup; refine wp_seen_look rfl (.tmp 16) (.tmp 17) rfl w.heap.size k _ rfl HSS.out x rfl HI.out 1 HC.out ?_) | (at_mapUpdate; refine wp_seen_put rfl (.tmp 16) (.tmp 17) (.tmp 19) rfl w.heap.size w.heap.size k _ rfl HSS.out x rfl HI.out _ rfl HCI.out (by omega) (Nat.le_refl _) ?_; intro w5 h5 b5 g5; have H5 := Lib.hid h5; have B5 := Lib.hid b5; have G5 := Lib.hid g5; clear h5 b5 g5) | (at_lookup; refine wp_seen_look rfl (.tmp 20) (.tmp 21) rfl w.heap.size (k + 1) _ rfl H5.out x rfl HI.out _ HPUT.out ?_))
          go_ret
          exact ⟨by rw [HFA.out]; rfl, HBR.out.trans B5.out⟩
        · rw [if_neg hm] at hc01
          subst hc01
          by_cases hlo : x < 59
          · have HFA : Hid (apartL F = false) := Lib.hid (HBAD.out (by rw [HAP.out, HP.out, decide_eq_false h0, decide_eq_false (fun h => by omega)]; rfl))
            clear hm hci h0
            go_wp2_with (first | (at_lookup; refine wp_seen_look rfl (.tmp 16) (.tmp 17) rfl w.heap.size k _ rfl HSS.out x rfl HI.out 0 HC.out ?_) | (at_mapUpdate; refine wp_seen_put rfl (.tmp 16) (.tmp 17) (.tmp 19) rfl w.heap.size w.heap.size k _ rfl HSS.out x rfl HI.out _ rfl HCI.out (by omega) (Nat.le_refl _) ?_; intro w5 h5 b5 g5; have H5 := Lib.hid h5; have B5 := Lib.hid b5; have G5 := Lib.hid g5; clear h5 b5 g5) | (at_lookup; refine wp_seen_look rfl (.tmp 20) (.tmp 21) rfl w.heap.size (k + 1) _ rfl H5.out x rfl HI.out _ HPUT.out ?_))
            go_ret
            exact ⟨by rw [HFA.out]; rfl, HBR.out.trans B5.out⟩
          · by_cases hhi : 480 ≤ x
            · have HFA : Hid (apartL F = false) := Lib.hid (HBAD.out (by rw [HAP.out, HP.out, decide_eq_false h0, decide_eq_false (fun h => by omega)]; rfl))
              clear hm hci h0
              go_wp2_with (first | (at_lookup; refine wp_seen_look rfl (.tmp 16) (.tmp 17) rfl w.heap.size k _ rfl HSS.out x rfl HI.out 0 HC.out ?_) | (at_mapUpdate; refine wp_seen_put rfl (.tmp 16) (.tmp 17) (.tmp 19) rfl w.heap.size w.heap.size k _ rfl HSS.out x rfl HI.out _ rfl HCI.out (by omega) (Nat.le_refl _) ?_; intro w5 h5 b5 g5; have H5 := Lib.hid h5; have B5 := Lib.hid b5; have G5 := Lib.hid g5; clear h5 b5 g5) | (at_lookup; refine wp_seen_look rfl (.tmp 20) (.tmp 21) rfl w.heap.size (k + 1) _ rfl H5.out x rfl HI.out _ HPUT.out ?_))
              go_ret
              exact ⟨by rw [HFA.out]; rfl, HBR.out.trans B5.out⟩
            · have HP2 : Hid (apartL (F.take (i + 1)) = true) := Lib.hid (by rw [HSN.out, HAP.out, HP.out, decide_eq_false hm, decide_eq_true (show 59 ≤ x ∧ x ≤ 479 by omega)]; simp)
              have HM := Lib.hid h0
              clear hm hci h0
              go_wp2_with (first | (at_lookup; refine wp_seen_look rfl (.tmp 16) (.tmp 17) rfl w.heap.size k _ rfl HSS.out x rfl HI.out 0 HC.out ?_) | (at_mapUpdate; refine wp_seen_put rfl (.tmp 16) (.tmp 17) (.tmp 19) rfl w.heap.size w.heap.size k _ rfl HSS.out x rfl HI.out _ rfl HCI.out (by omega) (Nat.le_refl _) ?_; intro w5 h5 b5 g5; have H5 := Lib.hid h5; have B5 := Lib.hid b5; have G5 := Lib.hid g5; clear h5 b5 g5) | (at_lookup; refine wp_seen_look rfl (.tmp 20) (.tmp 21) rfl w.heap.size (k + 1) _ rfl H5.out x rfl HI.out _ HPUT.out ?_))
              have HS2 : Hid (∃ k, k ≤ i + 1 ∧ SeenIs w5 w.heap.size k (fun p => if p ≠ 0 ∧ p ∈ F.take (i + 1) then 1 else 0)) := Lib.hid ⟨k + 1, by omega, H5.out.congr (fun p => by
                rw [HSN.out]
                by_cases hp : p = x
                · simp [hp, HM.out]
                · by_cases hp0 : p = 0
                  · simp [hp, hp0]
                    exact fun e => HM.out e.symm
                  · simp [hp, hp0])⟩
              go_roundw
              case rel => exact ⟨i + 1, by go_num, by omega, HS2, Lib.hid (HBR.out.trans B5.out), Lib.hid (HA.out.grown G5.out (HRB.out _ rfl)), HP2⟩
              case measure => simp [intOf]; omega
    · obtain rfl : i = T := by omega
      have HT : Hid (apartL F = true) := Lib.hid (by have := HP.out; rwa [← HFL.out, List.take_length] at this)
      go_wp2_with fail
      go_ret
      exact ⟨by rw [HT.out]; rfl, HBR.out⟩

end Go.Proofs.YtmcblhgpcgnaoaaGreatDoor

namespace Go.Proofs.YtmcblhgpcgnaoaaGreatDoor
open Go.RowKit
set_option linter.unusedVariables false
set_option linter.unusedSimpArgs false

theorem take_getD' (zs : List Int) (n i : Nat) (h : i < n) : (zs.take n).getD i 0 = zs.getD i 0 := by
  rw [List.getD_eq_getElem?_getD, List.getD_eq_getElem?_getD, List.getElem?_take, if_pos h]
theorem drop_getD' (zs : List Int) (k i : Nat) : (zs.drop k).getD i 0 = zs.getD (k + i) 0 := by
  rw [List.getD_eq_getElem?_getD, List.getD_eq_getElem?_getD, List.getElem?_drop]
theorem getD_behind (zs : List Int) (i : Nat) (h : zs.length ≤ i) : zs.getD i 0 = 0 := by
  rw [List.getD_eq_getElem?_getD, List.getElem?_eq_none h]; rfl

theorem lay_zero {L zs : List Int} {off n j : Nat} (hfit : off + n ≤ L.length) (h0 : off ≤ j → j < off + n → L.getD j 0 = 0) :
    (lay L off (zs.take n)).getD j 0 = if off ≤ j ∧ j < off + n then zs.getD (j - off) 0 else L.getD j 0 := by
  have hl : (zs.take n).length = min n zs.length := List.length_take
  rw [lay_get _ _ _ _ (by omega), hl]
  by_cases h : off ≤ j ∧ j < off + n
  · rw [if_pos h]
    by_cases h2 : j < off + min n zs.length
    · rw [if_pos ⟨h.1, h2⟩, take_getD' _ _ _ (by omega)]
    · rw [if_neg (fun h' => h2 h'.2), h0 h.1 h.2, getD_behind _ _ (by omega)]
  · rw [if_neg h, if_neg (by omega)]

theorem rep_getD (n j : Nat) : (List.replicate n (0 : Int)).getD j 0 = 0 := by
  rw [List.getD_eq_getElem?_getD, List.getElem?_replicate]
  split <;> rfl

theorem split_length (zs : List Int) : (splitL zs).length = 159 := by
  unfold splitL
  rw [fillL_length]
  exact List.length_replicate

theorem split_get (zs : List Int) (j : Nat) : (splitL zs).getD j 0 = if j < 34 then zs.getD j 0 else if j < 64 then 0 else if j < 154 then zs.getD (j - 30) 0 else 0 := by
  have e : splitL zs = lay (lay (lay (lay (lay (List.replicate 159 0) 0 (zs.take 4)) 4 ((zs.drop 4).take 30)) 64 (((zs.drop 4).drop 30).take 30)) 94 ((((zs.drop 4).drop 30).drop 30).take 30)) 124 (((((zs.drop 4).drop 30).drop 30).drop 30).take 30) := rfl
  rw [e]
  have l0 : (List.replicate 159 (0 : Int)).length = 159 := List.length_replicate
  have g0 := lay_zero (L := List.replicate 159 0) (zs := zs) (off := 0) (n := 4) (j := j) (by rw [l0]; decide) (fun _ _ => rep_getD _ _)
  generalize hL1 : lay (List.replicate 159 (0 : Int)) 0 (zs.take 4) = L1 at *
  have l1 : L1.length = 159 := by rw [← hL1, lay_length, l0]
  rw [rep_getD] at g0
  have g1 := lay_zero (L := L1) (zs := zs.drop 4) (off := 4) (n := 30) (j := j) (by rw [l1]; decide) (fun h _ => by rw [g0, if_neg (by omega)])
  generalize hL2 : lay L1 4 ((zs.drop 4).take 30) = L2 at *
  have l2 : L2.length = 159 := by rw [← hL2, lay_length, l1]
  rw [drop_getD', g0] at g1
  have g2 := lay_zero (L := L2) (zs := (zs.drop 4).drop 30) (off := 64) (n := 30) (j := j) (by rw [l2]; decide) (fun h _ => by rw [g1, if_neg (by omega), if_neg (by omega)])
  generalize hL3 : lay L2 64 (((zs.drop 4).drop 30).take 30) = L3 at *
  have l3 : L3.length = 159 := by rw [← hL3, lay_length, l2]
  rw [drop_getD', drop_getD', g1] at g2
  have g3 := lay_zero (L := L3) (zs := ((zs.drop 4).drop 30).drop 30) (off := 94) (n := 30) (j := j) (by rw [l3]; decide) (fun h _ => by rw [g2, if_neg (by omega), if_neg (by omega), if_neg (by omega)])
  generalize hL4 : lay L3 94 ((((zs.drop 4).drop 30).drop 30).take 30) = L4 at *
  have l4 : L4.length = 159 := by rw [← hL4, lay_length, l3]
  rw [drop_getD', drop_getD', drop_getD', g2] at g3
  have g4 := lay_zero (L := L4) (zs := (((zs.drop 4).drop 30).drop 30).drop 30) (off := 124) (n := 30) (j := j) (by rw [l4]; decide) (fun h _ => by rw [g3, if_neg (by omega), if_neg (by omega), if_neg (by omega), if_neg (by omega)])
  rw [drop_getD', drop_getD', drop_getD', drop_getD', g3] at g4
  rw [g4]
  by_cases h1 : j < 4
  · rw [if_neg (by omega), if_neg (by omega), if_neg (by omega), if_neg (by omega), if_pos (by omega), if_pos (by omega)]
    exact congrArg (fun k => zs.getD k 0) (by omega)
  · by_cases h2 : j < 34
    · rw [if_neg (by omega), if_neg (by omega), if_neg (by omega), if_pos (by omega), if_pos (by omega)]
      exact congrArg (fun k => zs.getD k 0) (by omega)
    · by_cases h3 : j < 64
      · rw [if_neg (by omega), if_neg (by omega), if_neg (by omega), if_neg (by omega), if_neg (by omega), if_neg (by omega), if_pos (by omega)]
      · by_cases h4 : j < 94
        · rw [if_neg (by omega), if_neg (by omega), if_pos (by omega), if_neg (by omega), if_neg (by omega), if_pos (by omega)]
          exact congrArg (fun k => zs.getD k 0) (by omega)
        · by_cases h5 : j < 124
          · rw [if_neg (by omega), if_pos (by omega), if_neg (by omega), if_neg (by omega), if_pos (by omega)]
            exact congrArg (fun k => zs.getD k 0) (by omega)
          · by_cases h6 : j < 154
            · rw [if_pos (by omega), if_neg (by omega), if_neg (by omega), if_pos (by omega)]
              exact congrArg (fun k => zs.getD k 0) (by omega)
            · rw [if_neg (by omega), if_neg (by omega), if_neg (by omega), if_neg (by omega), if_neg (by omega), if_neg (by omega), if_neg (by omega), if_neg (by omega)]

theorem part_of {L : List Int} {o n : Nat} (h : o + n ≤ L.length) : (L.drop o).take n = (List.range n).map fun i => L.getD (o + i) 0 := by
  apply List.ext_getElem?
  intro i
  by_cases hi : i < n
  · rw [List.getElem?_take, if_pos hi, List.getElem?_drop, List.getElem?_map, List.getElem?_range hi, List.getElem?_eq_getElem (by omega)]
    show some L[o + i] = some (L.getD (o + i) 0)
    rw [List.getD_eq_getElem?_getD, List.getElem?_eq_getElem (show o + i < L.length by omega)]
    rfl
  · rw [List.getElem?_eq_none (by rw [List.length_take]; omega), List.getElem?_eq_none (by simp; omega)]

/-- The pages of a chart that pointers were laid into. -/
theorem split_page {zs : List Int} {i s : Nat} (h : i = 0 ∧ s = 4 ∨ i = 2 ∧ s = 34 ∨ i = 3 ∧ s = 64 ∨ i = 4 ∧ s = 94) : pageL (splitL zs) i = partP zs s 30 := by
  unfold pageL partP
  rw [part_of (by rw [split_length]; omega)]
  apply List.map_congr_left
  intro k hk
  have hk' := List.mem_range.1 hk
  show (splitL zs).getD _ 0 = zs.getD _ 0
  rw [split_get]
  rcases h with ⟨rfl, rfl⟩ | ⟨rfl, rfl⟩ | ⟨rfl, rfl⟩ | ⟨rfl, rfl⟩
  · rw [if_pos (by omega)]
  · rw [if_neg (by omega), if_neg (by omega), if_pos (by omega)]; exact congrArg (fun k => zs.getD k 0) (by omega)
  · rw [if_neg (by omega), if_neg (by omega), if_pos (by omega)]; exact congrArg (fun k => zs.getD k 0) (by omega)
  · rw [if_neg (by omega), if_neg (by omega), if_pos (by omega)]; exact congrArg (fun k => zs.getD k 0) (by omega)

theorem split_zero {zs : List Int} {j : Nat} (h : 34 ≤ j ∧ j < 64 ∨ 154 ≤ j) : (splitL zs).getD j 0 = 0 := by
  rw [split_get]
  rcases h with h | h
  · rw [if_neg (by omega), if_pos (by omega)]
  · rw [if_neg (by omega), if_neg (by omega), if_neg (by omega)]

def usedN (L : List Int) (i : Nat) : Nat := ((List.range i).filter (needsB L)).length
theorem usedN_succ (L : List Int) (i : Nat) : usedN L (i + 1) = usedN L i + (needsB L i).toNat := by
  unfold usedN
  rw [List.range_succ, List.filter_append, List.length_append]
  cases h : needsB L i <;> simp [List.filter, h]
theorem usedN_le (L : List Int) (i : Nat) : usedN L i ≤ i := by
  unfold usedN
  have := List.length_filter_le (needsB L) (List.range i)
  rwa [List.length_range] at this

/-- Which pages are needed. -/
theorem split_needs (zs : List Int) : needsB (splitL zs) 0 = someP zs 4 30 ∧ needsB (splitL zs) 1 = doubleB zs ∧ needsB (splitL zs) 2 = someP zs 34 30 ∧ needsB (splitL zs) 3 = someP zs 64 30 ∧ needsB (splitL zs) 4 = someP zs 94 30 := by
  have p0 := split_page (zs := zs) (i := 0) (s := 4) (by omega)
  have p2 := split_page (zs := zs) (i := 2) (s := 34) (by omega)
  have p3 := split_page (zs := zs) (i := 3) (s := 64) (by omega)
  have p4 := split_page (zs := zs) (i := 4) (s := 94) (by omega)
  unfold needsB
  rw [p0, p2, p3, p4]
  refine ⟨rfl, ?_, rfl, rfl, rfl⟩
  rw [if_pos rfl]
  unfold doubleB underN
  show ((someP zs 34 30) || (someP zs 64 30 || (someP zs 94 30 || false))) = _
  cases someP zs 34 30 <;> cases someP zs 64 30 <;> cases someP zs 94 30 <;> rfl

theorem usedN_need (zs : List Int) : usedN (splitL zs) 5 = needP zs := by
  obtain ⟨h0, h1, h2, h3, h4⟩ := split_needs zs
  rw [usedN_succ, usedN_succ, usedN_succ, usedN_succ, usedN_succ, h0, h1, h2, h3, h4]
  unfold needP doubleB underN
  cases someP zs 4 30 <;> cases someP zs 34 30 <;> cases someP zs 64 30 <;> cases someP zs 94 30 <;> rfl

theorem lists_one {w : World} {ao : Option Addr} {len cap : Nat} {zs : List Int} (h : IArg w ao len cap zs) (T : TypeId) : ListsIn (w.alloc (.cells #[.slice ao len cap] T)) w.heap.size 0 [zs] := by
  intro j ys hj
  match j, hj with
  | 0, hj =>
    cases hj
    refine ⟨ao, len, cap, ?_, h.later ((Below.refl _ _).alloc (Nat.le_refl _) _)⟩
    rw [World.cell?_alloc_new]
    rfl
  | j + 1, hj => simp at hj

theorem chart_of_own {base g : Nat} {w0 w : World} {L : List Int} (h : OwnV base w0 g (ints L) w) (hl : L.length = 159) : ChartAt w g L := ⟨hl, own_range h⟩

set_option maxRecDepth 100000 in
set_option maxHeartbeats 6400000 in
theorem Need_any (ao : Option Addr) (len cap : Nat) (zs : List Int) (w : World) (hA : IArg w ao len cap zs) : Calls Tryz.prog 139 #[.slice ao len cap] w fun e w' => e = .returned (.tuple #[.int .i64 (needOut zs), .int .i64 (needErr zs)]) ∧ Below w.heap.size w w' := by
  have hlen := hA.len
  by_cases h96 : 96 < len
  · have HE : Hid (needErr zs = 1 ∧ needOut zs = 0) := Lib.hid (by
      unfold needErr needOut ptrsOk
      rw [decide_eq_false (by omega)]
      exact ⟨rfl, rfl⟩)
    have i1 : (96 : Int) < (len : Int) := by omega
    clear hA hlen
    go_enter Tryz.func139, Tryz.ntmps139
    go_wp2_with fail
    go_ret2
    exact ⟨by rw [HE.out.1, HE.out.2]; rfl, Below.refl _ _⟩
  · have i1 : ¬ (96 : Int) < (len : Int) := by omega
    have cA := apart_any w.heap.size 0 1 1 [zs] _ rfl (lists_one hA 50) (by show zs.length + 0 ≤ 10000; omega) (by decide)
    rw [show [zs].flatten = zs from by simp] at cA
    have HP : Hid (ptrsOk zs = apartL zs) := Lib.hid (by unfold ptrsOk; rw [decide_eq_true (by omega)]; rfl)
    have HA := Lib.hid hA
    clear hA hlen
    cases hap : apartL zs with
    | false =>
      have HE : Hid (needErr zs = 1 ∧ needOut zs = 0) := Lib.hid (by
        unfold needErr needOut
        rw [HP.out, hap]
        exact ⟨rfl, rfl⟩)
      rw [hap] at cA
      clear hap
      go_enter Tryz.func139, Tryz.ntmps139
      go_wp2_with (go_at_call 176; refine cA.mono ?_; rintro e w2 ⟨rfl, hb⟩; have HB := Lib.hid hb; clear hb)
      go_ret2
      exact ⟨by rw [HE.out.1, HE.out.2]; rfl, ((Below.refl _ _).alloc (Nat.le_refl _) _).trans (HB.out.mono (by simp))⟩
    | true =>
      have HE : Hid (needErr zs = 0 ∧ needOut zs = (needP zs : Int)) := Lib.hid (by
        unfold needErr needOut
        rw [HP.out, hap]
        exact ⟨rfl, rfl⟩)
      rw [hap] at cA
      clear hap
      have HS : Hid (∀ W, Below w.heap.size w W → Calls Tryz.prog 201 #[.slice ao len cap] W fun e w' => ∃ g, e = .returned (.pointer (some ⟨g, 0, none⟩)) ∧ OwnV W.heap.size W g (ints (splitL zs)) w') := Lib.hid (fun W hW => split_any ao len cap zs W (HA.out.later hW))
      go_enter Tryz.func139, Tryz.ntmps139
      go_wp2_with (first | (go_at_call 176; refine cA.mono ?_; rintro e w2 ⟨rfl, hb⟩; have HB := Lib.hid (((Below.refl _ _).alloc (Nat.le_refl _) _).trans (hb.mono (by simp))); clear hb) | (go_at_call 201; refine (HS.out _ HB.out).mono ?_; rintro e w3 ⟨g, rfl, ho⟩; have HC := Lib.hid (chart_of_own ho (split_length zs)); have HB3 := Lib.hid (HB.out.trans (ho.2.2.2.mono HB.out.size)); clear ho))
      go_loopw [4, 18] (fun nv iv wr => ∃ i : Nat, iv = .int .i64 (i : Int) ∧ nv = .int .i64 ((usedN (splitL zs) i : Nat) : Int) ∧ i ≤ 5 ∧ Hid (Below w.heap.size w wr) ∧ Hid (ChartAt wr g (splitL zs))) (fun _ iv _ => 5 - (intOf iv).toNat)
      case atStart => exact ⟨0, rfl, rfl, Nat.zero_le _, HB3, HC⟩
      case round =>
        obtain ⟨i, rfl, rfl, hi, HBR, HCR⟩ := hrel
        by_cases hlt : i < 5
        · have cN := needs_any HCR.out hlt
          have i5 : (i : Int) < 5 := by omega
          have hu := usedN_succ (splitL zs) i
          have hle := usedN_le (splitL zs) i
          cases hn : needsB (splitL zs) i with
          | false =>
            rw [hn] at cN hu
            have HU : Hid (usedN (splitL zs) (i + 1) = usedN (splitL zs) i) := Lib.hid hu
            clear hn hu hle
            go_wp2_with (go_at_call 202; refine cN.mono ?_; rintro e w5 ⟨rfl, b5⟩; have B5 := Lib.hid b5; clear b5)
            go_roundw
            case rel => exact ⟨i + 1, by go_num, by rw [HU.out], by omega, Lib.hid (HBR.out.trans (B5.out.mono HBR.out.size)), Lib.hid (HCR.out.later B5.out)⟩
            case measure => simp [intOf]; omega
          | true =>
            rw [hn] at cN hu
            have HU : Hid (usedN (splitL zs) (i + 1) = usedN (splitL zs) i + 1) := Lib.hid hu
            have s1 : wrap64 (((usedN (splitL zs) i : Nat) : Int) + 1) = ((usedN (splitL zs) (i + 1) : Nat) : Int) := by rw [HU.out]; unfold wrap64; omega
            clear hn hu hle
            go_wp2_with (go_at_call 202; refine cN.mono ?_; rintro e w5 ⟨rfl, b5⟩; have B5 := Lib.hid b5; clear b5)
            go_roundw
            case rel => exact ⟨i + 1, by go_num, by rw [s1], by omega, Lib.hid (HBR.out.trans (B5.out.mono HBR.out.size)), Lib.hid (HCR.out.later B5.out)⟩
            case measure => simp [intOf]; omega
        · obtain rfl : i = 5 := by omega
          have HU : Hid (usedN (splitL zs) 5 = needP zs) := Lib.hid (usedN_need zs)
          go_wp2_with fail
          go_ret2
          exact ⟨by rw [HE.out.1, HE.out.2, ← HU.out]; rfl, HBR.out⟩

end Go.Proofs.YtmcblhgpcgnaoaaGreatDoor


namespace Go.Proofs.YtmcblhgpcgnaoaaGreatDoor
open Go.RowKit
set_option linter.unusedVariables false
set_option linter.unusedSimpArgs false

theorem wp_idx {ops : Array Oper} {rest : List Oper} {o : Oper} {a : Act} {w : World} {Q : Exit → Act → World → Prop} (hgd : o.guard = none) (x i : Operand) (t : TypeId) (ho : o.op = .index t x i) (v : Value)
    (hr : ∀ w, (Instr.index t (a.eval x) (a.eval i)).run Tryz.prog w = .ok v w) (h : wpList Tryz.prog ops Q rest (a.put o.dst v) w) : wpList Tryz.prog ops Q (o :: rest) a w := by
  refine wpList_plain hgd fun K hK => ?_
  unfold Oper.wp
  simp [execOp, ho, hr, Result.andThen]
  exact hK _ _ h

theorem idx_ints {t : TypeId} {n : Nat} (hu : Tryz.prog.underlying t = some (.array n 3)) {p : List Int} (hl : p.length = n) {i : Nat} (hi : i < n) : ∀ w, (Instr.index t (.agg (ints p).toArray) (.int .i64 (i : Int))).run Tryz.prog w = .ok (.int .i64 (p.getD i 0)) w := by
  intro w
  have z := Tryz.sizeOf3
  have hp := part_int w p i (by omega)
  have h3 : (i : Int) < (n : Int) := by omega
  unfold Instr.index
  simp [asIntOf, run_underlying hu, z, h3, Result.andThen, hp]
  intro h
  omega

/-- The bytes of the first i numbers, and zeros. -/
def bytesW (p : List Int) (i : Nat) : List Int := ((p.take i).flatMap fun x => leB x 2) ++ List.replicate (64 - 2 * i) 0

theorem bytesW_succ {p : List Int} {i : Nat} (hi : i < p.length) (h30 : i < 30) : lay (bytesW p i) (2 * i) (leB (p.getD i 0) 2) = bytesW p (i + 1) := by
  unfold bytesW
  have hl : ((p.take i).flatMap fun x => leB x 2).length = 2 * i := by rw [flat_len, List.length_take]; omega
  have h := lay_end ((p.take i).flatMap fun x => leB x 2) (leB (p.getD i 0) 2) (64 - 2 * i) (by rw [leB_length]; omega)
  rw [hl] at h
  rw [h, leB_length, List.take_add_one, List.getElem?_eq_getElem hi, List.flatMap_append]
  have e : p.getD i 0 = p[i] := by rw [List.getD_eq_getElem?_getD, List.getElem?_eq_getElem hi]; rfl
  rw [e, show 64 - 2 * (i + 1) = 64 - 2 * i - 2 by omega]
  simp

theorem bytesW_page {p : List Int} (h : p.length = 30) : sealOf sumS (bytesW p 30) = pageB p := by
  have hl : (p.flatMap fun x => leB x 2).length = 60 := by rw [flat_len, h]
  have e : bytesW p 30 = (p.flatMap fun x => leB x 2) ++ List.replicate 4 0 := by
    unfold bytesW
    rw [List.take_of_length_le (by omega)]
  have h64 : (bytesW p 30).length = 64 := by rw [e, List.length_append, hl, List.length_replicate]
  unfold pageB
  rw [sealOf_take h64, seal_short (by omega), hl, Nat.sub_self, List.replicate_zero, List.append_nil, e, List.take_append_of_le_length (by omega), List.take_of_length_le (by omega)]

theorem set_small (zs : List Int) (i : Nat) (x : Int) (hl : zs.length = 64) (hi : i < 30) (hx : 0 ≤ x ∧ x ≤ 65535) : setErr 64 (2 * (i : Int)) 2 x = 0 ∧ setOut zs (2 * (i : Int)) 2 x = lay zs (2 * i) (leB x 2) := by
  have hf : fErr 64 (2 * (i : Int)) 2 = 0 := by unfold fErr; rw [if_pos rfl, if_neg (by omega)]
  have he : setErr 64 (2 * (i : Int)) 2 x = 0 := by
    unfold setErr
    rw [hf, if_neg (by decide), show (2 : Int).toNat = 2 from rfl, putK_quot, if_neg (by
      have : x / 256 ^ 2 = 0 := by
        rw [show (256 : Int) ^ 2 = 65536 from rfl]
        omega
      omega)]
  refine ⟨he, ?_⟩
  rw [setOut_ok (by rw [hl]; exact he), show (2 * (i : Int)).toNat = 2 * i by omega, show (2 : Int).toNat = 2 from rfl, putK_lay]

set_option maxRecDepth 100000 in
set_option maxHeartbeats 6400000 in
theorem trWrite_any (p : List Int) (w : World) (h : p.length = 30) (hp : ∀ x ∈ p, 0 ≤ x ∧ x ≤ 65535) : Calls Tryz.prog 253 #[pageV p] w fun e w' => ∃ v, e = .returned v ∧ Fresh w' w.heap.size v (pageB p) ∧ Below w.heap.size w w' := by
  have hr : ∀ o T, ((w.alloc (.cells (ints p).toArray 267)).alloc (.cells o T)).rangeAt w.heap.size 0 (ints p) := fun o T j v hj => by
    rw [Nat.zero_add]
    refine cell_later ((Below.refl _ _).alloc (Nat.le_refl _) _) ?_
    rw [World.cell?_alloc_new]
    simpa using hj
  have HI := Lib.hid (iPage h)
  have HR := Lib.hid hr
  have HP := Lib.hid hp
  have HL := Lib.hid h
  have hmk : ∀ W : World, (Instr.makeSlice 62 (.int .i64 64) (.int .i64 64)).run Tryz.prog W = .ok (.slice (some ⟨W.heap.size, 0, none⟩) 64 64) (W.alloc (.cells (madeCells #[.int .u8 0] 64) 5)) := fun W => run_make_bytes W 64 (by decide)
  have HM : Hid (Arg ((w.alloc (.cells (ints p).toArray 267)).alloc (.cells (madeCells #[.int .u8 0] 64) 5)) (some ⟨(w.alloc (.cells (ints p).toArray 267)).heap.size, 0, none⟩) 64 64 (List.replicate 64 0)) := Lib.hid (made_arg _ 64 (by decide))
  unfold pageV
  clear hr hp
  go_enter Tryz.func253, Tryz.ntmps253
  go_wp2_with (refine wpList_load_mid rfl 267 (.tmp 1) rfl w.heap.size 0 rfl (ints p) _ (HR.out _ _) uPage rfl HI.out ?_)
  have HB0 : Hid (Below w.heap.size w ((w.alloc (.cells (ints p).toArray 267)).alloc (.cells (madeCells #[.int .u8 0] 64) 5))) := Lib.hid (((Below.refl _ _).alloc (Nat.le_refl _) _).alloc (by simp) _)
  go_loopw [3, 8] (fun sv iv wr => ∃ i : Nat, iv = .int .i64 (i : Int) ∧ i ≤ 30 ∧ (∃ ao cap, sv = .slice ao (64 : Nat) cap ∧ Hid (Arg wr ao 64 cap (bytesW p i))) ∧ Hid (Below w.heap.size w wr)) (fun _ iv _ => 30 - (intOf iv).toNat)
  case atStart => exact ⟨0, rfl, Nat.zero_le _, ⟨_, _, rfl, Lib.hid (by have := HM.out; simpa [bytesW] using this)⟩, HB0⟩
  case round =>
    obtain ⟨i, rfl, hi, ⟨ao, cap, rfl, HA⟩, HB⟩ := hrel
    by_cases hlt : i < 30
    · have i1 : (i : Int) < 30 := by omega
      have hx : 0 ≤ p.getD i 0 ∧ p.getD i 0 ≤ 65535 := HP.out _ (by rw [List.getD_eq_getElem?_getD, List.getElem?_eq_getElem (by have := HL.out; omega)]; exact List.getElem_mem _)
      have hIx := idx_ints uPage HL.out hlt
      have HIX := Lib.hid hIx
      have hbl : (bytesW p i).length = 64 := HA.out.1.1
      have hs := set_small (bytesW p i) i (p.getD i 0) hbl hlt hx
      rw [bytesW_succ (by rw [HL.out]; exact hlt) hlt] at hs
      have cS := fSet_any ao 64 cap (bytesW p i) (2 * (i : Int)) 2 (p.getD i 0) wr HA.out (by omega) (by decide) (by omega)
      rw [hs.1, hs.2] at cS
      have w2 : wrap64 (2 * (i : Int)) = 2 * (i : Int) := by unfold wrap64; omega
      have hbl2 : (bytesW p (i + 1)).length = 64 := by
        rw [← hs.2]
        have := hs.1
        rw [← hbl] at this
        rw [setOut_ok this]
        rw [show (2 * (i : Int)).toNat = 2 * i by omega, show (2 : Int).toNat = 2 from rfl, putK_lay, lay_length, hbl]
      have HBL := Lib.hid hbl2
      generalize p.getD i 0 = x at *
      clear hs hx hbl hbl2 hIx
      go_wp2_with (first | (refine wp_idx rfl (.tmp 7) (.tmp 8) 267 rfl _ HIX.out ?_) | (go_at_call 161; refine cS.mono ?_; rintro e w5 ⟨v5, rfl, hf, hb⟩; have HF := Lib.hid hf; have HB5 := Lib.hid hb; clear hf hb))
      obtain ⟨ao5, cap5, rfl, hA5, _⟩ := HF.out
      rw [HBL.out] at hA5
      go_roundw
      case rel => exact ⟨i + 1, by go_num, by omega, ⟨ao5, cap5, by rw [HBL.out], Lib.hid hA5⟩, Lib.hid (HB.out.trans (HB5.out.mono HB.out.size))⟩
      case measure => simp [intOf]; omega
    · obtain rfl : i = 30 := by omega
      have cS := fSeal_any ao 64 cap (bytesW p 30) wr HA.out
      have e1 : sealErr 64 = 0 := rfl
      have e2 : sealOut sumS (bytesW p 30) = pageB p := by
        unfold sealOut
        rw [if_pos HA.out.1.1]
        exact bytesW_page HL.out
      rw [e1, e2] at cS
      clear e1 e2
      go_wp2_with (go_at_call 98; refine cS.mono ?_; rintro e w5 ⟨v5, rfl, hf, hb⟩; have HF := Lib.hid hf; have HB5 := Lib.hid hb; clear hf hb)
      go_ret
      exact ⟨v5, rfl, HF.out.mono HB.out.size, HB.out.trans (HB5.out.mono HB.out.size)⟩

/-! ### ReadingT a page -/

theorem words_get (zs : List Int) {i : Nat} (hi : i < 30) (hl : zs.length = 64) : (words zs).getD i 0 = getOut zs (2 * (i : Int)) 2 := by
  have hf : fErr zs.length (2 * (i : Int)) 2 = 0 := by unfold fErr; rw [if_pos hl, if_neg (by omega)]
  unfold getOut words
  rw [if_pos hf, List.getD_eq_getElem?_getD, List.getElem?_map, List.getElem?_range hi, show (2 * (i : Int)).toNat = 2 * i by omega]
  rfl

theorem words_length (zs : List Int) : (words zs).length = 30 := by unfold words; simp

theorem page_there (w : World) (g : Nat) (h : w.rangeAt g 0 (ints (List.replicate 30 0))) (hf : ∀ j, w.frozen? ⟨g, j, none⟩ = false) : w.there g 0 30 := by
  intro j hj
  refine ⟨?_, hf _⟩
  rw [h j (.int .i64 0) (ints_get (by rw [List.getElem?_replicate, if_pos hj]))]
  rfl

theorem results_cell_p {fn : Func} {p : Tmp} {ty : TypeId} (h : fn.results = #[.cell p ty]) (tmps : Array Value) (P : Program) (w : World) :
    (results fn tmps).run P w = ((asAddr (tmps.getD p undef)).run P w).andThen fun a w₁ => (loadVar ty a).run P w₁ := by
  simp only [results, h]
  simp [Sem.run_bind, Result.andThen]
theorem iPageA {p : List Int} (h : p.length = 30) : (Tryz.prog.info? 267).map (·.size) = some (ints p).toArray.size := by rw [List.size_toArray]; exact iPage h
theorem Keeps.frozen {g : Nat} {w w' : World} (h : Keeps g w w') {p : Addr} (hp : p.block ≠ g) : w'.frozen? p = w.frozen? p := World.frozen?_of_block (w := w) (h.2 p.block hp)
theorem Keeps.there {g b o n : Nat} {w w' : World} (h : Keeps g w w') (ht : w.there b o n) (hb : b ≠ g) : w'.there b o n := fun j hj => by
  rw [h.cell (p := ⟨b, o + j, none⟩) hb, h.frozen (p := ⟨b, o + j, none⟩) hb]
  exact ht j hj

theorem made_page (w : World) : OwnV w.heap.size w w.heap.size (ints (List.replicate 30 0)) (w.alloc (.cells zero30 267)) := by
  refine ⟨fun j x hj => ?_, fun j => by rw [World.frozen?_alloc_mark]; simp, Nat.le_refl _, (Below.refl _ _).alloc (Nat.le_refl _) _⟩
  rw [World.cell?_alloc_new]
  have e : zero30 = (ints (List.replicate 30 0)).toArray := rfl
  rw [e]
  simpa using hj

/-- A page that is being read, i numbers of it. -/
def ReadingT (w0 w2 : World) (P : List Int) (i : Nat) (wr : World) : Prop :=
  OwnV w0.heap.size w0 (w0.heap.size + 1) (ints (P.take i ++ List.replicate (30 - i) 0)) wr ∧ Keeps (w0.heap.size + 1) w2 wr

theorem set_mid (P : List Int) (i n : Nat) (hi : i < P.length) (hn : i < n) (x : Int) (hx : x = P.getD i 0) : (P.take i ++ List.replicate (n - i) 0).set i x = P.take (i + 1) ++ List.replicate (n - (i + 1)) 0 := by
  have hl2 : (P.take i).length = i := by rw [List.length_take]; omega
  have e3 : P.take (i + 1) = P.take i ++ [x] := by
    rw [List.take_add_one, List.getElem?_eq_getElem hi, hx, List.getD_eq_getElem?_getD, List.getElem?_eq_getElem hi]
    rfl
  rw [e3, List.set_append_right _ _ (by omega), hl2, Nat.sub_self, show n - i = (n - (i + 1)) + 1 by omega, List.replicate_succ, List.set_cons_zero, List.append_assoc]
  rfl

theorem ReadingT.step {w0 w2 wr : World} {P : List Int} {i : Nat} (h : ReadingT w0 w2 P i wr) (hl : P.length = 30) (hi : i < 30) (x : Int) (hx : x = P.getD i 0) : ReadingT w0 w2 P (i + 1) (wr.setCell ⟨w0.heap.size + 1, i, none⟩ (.int .i64 x)) := by
  refine ⟨?_, h.2.trans (Keeps.set wr ⟨w0.heap.size + 1, i, none⟩ _)⟩
  have h1 := h.1.store (k := i) (y := .int .i64 x) (by rw [ints_length, List.length_append, List.length_take, List.length_replicate]; omega)
  rw [← ints_set, set_mid P i 30 (by omega) hi x hx] at h1
  exact h1

set_option maxRecDepth 100000 in
set_option maxHeartbeats 6400000 in
theorem trRead_any (ao : Option Addr) (cap : Nat) (zs : List Int) (w : World) (hA : Arg w ao 64 cap zs) : Calls Tryz.prog 264 #[.slice ao (64 : Nat) cap] w fun e w' => e = .returned (pageV (words zs)) ∧ Below w.heap.size w w' := by
  have HA := Lib.hid hA
  clear hA
  have HWG := Lib.hid (fun i (hi : i < 30) => words_get zs hi HA.out.1.1)
  have HPL := Lib.hid (words_length zs)
  obtain ⟨P, hP⟩ : ∃ P, words zs = P := ⟨_, rfl⟩
  rw [hP] at HWG HPL ⊢
  clear hP
  have HM : Hid (ReadingT w ((w.alloc (.cells zero30 267)).alloc (.cells zero30 267)) P 0 ((w.alloc (.cells zero30 267)).alloc (.cells zero30 267))) := Lib.hid (by
    have h := made_page (w.alloc (.cells zero30 267))
    rw [World.size_alloc] at h
    refine ⟨⟨h.1, h.2.1, Nat.le_succ _, ((Below.refl _ _).alloc (Nat.le_refl _) _).alloc (by simp) _⟩, Keeps.refl _ _⟩)
  have HT : Hid (((w.alloc (.cells zero30 267)).alloc (.cells zero30 267)).there w.heap.size 0 30) := Lib.hid (by
    have h := made_page w
    exact World.there_alloc (page_there _ _ (own_range h) h.2.1) _)
  unfold zero30 at HM HT
  go_enter Tryz.func264, Tryz.ntmps264
  go_wp2_with fail
  obtain ⟨W2, hW2⟩ : ∃ W2, W2 = (w.alloc (.cells zero30 267)).alloc (.cells zero30 267) := ⟨_, rfl⟩
  unfold zero30 at hW2
  rw [← hW2] at HM HT ⊢
  clear hW2
  go_loopw [5] (fun iv wr => ∃ i : Nat, iv = .int .i64 (i : Int) ∧ i ≤ 30 ∧ Hid (ReadingT w W2 P i wr)) (fun iv _ => 30 - (intOf iv).toNat)
  case atStart => exact ⟨0, rfl, Nat.zero_le _, HM⟩
  case round =>
    obtain ⟨i, rfl, hi, HR⟩ := hrel
    by_cases hlt : i < 30
    · have i1 : (i : Int) < 30 := by omega
      have w2 : wrap64 (2 * (i : Int)) = 2 * (i : Int) := by unfold wrap64; omega
      have cG := fGet_any ao 64 cap zs (2 * (i : Int)) 2 wr (HA.out.later HR.out.1.2.2.2) (by omega) (by decide)
      have HX : Hid (getOut zs (2 * (i : Int)) 2 = P.getD i 0) := Lib.hid (HWG.out i hlt).symm
      have c4 := HR.out.1.1 i _ (ints_get (x := ((P.take i ++ List.replicate (30 - i) 0).getD i 0)) (by
        rw [List.getD_eq_getElem?_getD, List.getElem?_eq_getElem (by rw [List.length_append, List.length_take, List.length_replicate, HPL.out]; omega)]
        rfl))
      have f4 := HR.out.1.2.1 i
      generalize (P.take i ++ List.replicate (30 - i) 0).getD i 0 = y at *
      generalize getOut zs (2 * (i : Int)) 2 = x at *
      generalize fErr 64 (2 * (i : Int)) 2 = E at *
      go_wp2_with (go_at_call 220; refine cG.mono ?_; rintro e w5 ⟨rfl, rfl⟩)
      go_roundw
      case rel => exact ⟨i + 1, by go_num, by omega, Lib.hid (HR.out.step HPL.out hlt x HX.out)⟩
      case measure => simp [intOf]; omega
    · obtain rfl : i = 30 := by omega
      have HO : Hid (OwnV w.heap.size w (w.heap.size + 1) (ints P) wr) := Lib.hid (by
        have h := HR.out.1
        rw [List.take_of_length_le (by rw [HPL.out]; omega), Nat.sub_self, List.replicate_zero, List.append_nil] at h
        exact h)
      have HTh : Hid (wr.there w.heap.size 0 (ints P).toArray.size) := Lib.hid (by
        have e : (ints P).toArray.size = 30 := by rw [List.size_toArray, ints_length, HPL.out]
        rw [e]
        exact HR.out.2.there HT.out (by omega))
      have HRG : Hid ((wr.setCells w.heap.size 0 (ints P)).rangeAt w.heap.size 0 (ints P)) := Lib.hid (World.rangeAt_setCells_same _ _ _ _ (by
        have h := HTh.out
        have e : (ints P).toArray.size = (ints P).length := by simp
        rwa [e] at h))
      have HBB : Hid (Below w.heap.size w (wr.setCells w.heap.size 0 (ints P).toArray.toList)) := Lib.hid (below_cells _ (Nat.le_refl _) _ _ _ HR.out.1.2.2.2)
      go_wp2_with (first | (refine wpList_load_mid rfl 267 (.tmp 3) rfl (w.heap.size + 1) 0 rfl (ints P) _ (own_range HO.out) uPage rfl (iPage (HPL.out)) ?_) | (refine wpList_store_mid rfl 267 (.tmp 2) (.tmp 18) rfl w.heap.size 0 (ints P).toArray rfl rfl HTh.out (iPageA (HPL.out)) (all_oneCell_toArray (ints_one _)) ?_))
      refine bodyPost_ret (v := pageV P) ?_ rfl ⟨rfl, HBB.out⟩
      rw [results_cell_p rfl]
      simp only [asAddr, Sem.run_pure, Result.andThen_ok]
      exact run_loadVar_mid _ _ _ _ _ _ HRG.out uPage rfl (iPage (HPL.out))

end Go.Proofs.YtmcblhgpcgnaoaaGreatDoor


namespace Go.Proofs.YtmcblhgpcgnaoaaGreatDoor
open Go.RowKit
set_option linter.unusedVariables false
set_option linter.unusedSimpArgs false

/-- A chart whose first i pages have their blocks. -/
def placeL (L fs : List Int) : Nat → List Int
  | 0 => L
  | i + 1 => if needsB L i = true then (placeL L fs i).set (154 + i) (fs.getD (usedN L i) 0) else placeL L fs i

theorem placeL_length (L fs : List Int) : ∀ i, (placeL L fs i).length = L.length
  | 0 => rfl
  | i + 1 => by
    unfold placeL
    split
    · rw [List.length_set, placeL_length L fs i]
    · exact placeL_length L fs i

theorem placeL_low (L fs : List Int) : ∀ i j, j < 154 → (placeL L fs i)[j]? = L[j]?
  | 0, _, _ => rfl
  | i + 1, j, h => by
    unfold placeL
    split
    · rw [List.getElem?_set_ne (by omega), placeL_low L fs i j h]
    · exact placeL_low L fs i j h

theorem page_low {L M : List Int} (h : ∀ j, j < 154 → M[j]? = L[j]?) {k : Nat} (hk : k < 5) : pageL M k = pageL L k := by
  unfold pageL
  apply List.ext_getElem?
  intro i
  rw [List.getElem?_take, List.getElem?_take]
  split
  · rw [List.getElem?_drop, List.getElem?_drop, h _ (by omega)]
  · rfl

theorem needs_low {L M : List Int} (h : ∀ j, j < 154 → M[j]? = L[j]?) {k : Nat} (hk : k < 5) : needsB M k = needsB L k := by
  unfold needsB
  rw [page_low h (by decide : 2 < 5), page_low h (by decide : 3 < 5), page_low h (by decide : 4 < 5), page_low h hk]

def placedL (L fs : List Int) : List Int := lay (placeL L fs 5) 34 (((placeL L fs 5).drop 156).take 3)

theorem usedN_mono (L : List Int) {i j : Nat} (h : i ≤ j) : usedN L i ≤ usedN L j := by
  induction h with
  | refl => exact Nat.le_refl _
  | step _ ih => rw [usedN_succ]; omega

theorem restI (w : World) {ao : Option Addr} {len cap k : Nat} {fs : List Int} (h : IArg w ao len cap fs) (hk : k < len) : ∃ b off, ao = some ⟨b, off, none⟩ ∧ IArg w (some ⟨b, off + k, none⟩) (len - k) (cap - k) (fs.drop k) ∧ w.cell? ⟨b, off + k, none⟩ = some (.int .i64 (fs.getD k 0)) ∧ fs[k]? = some (fs.getD k 0) := by
  obtain ⟨b, off, x, rfl, hx, hc, _⟩ := h.at hk
  refine ⟨b, off, rfl, h.drop (by omega), ?_, ?_⟩
  · rw [hc, List.getD_eq_getElem?_getD, hx]; rfl
  · rw [List.getD_eq_getElem?_getD, hx]; rfl

/-- The fresh blocks that are left, as a slice: from the k-th on, where there are any. -/
def LeftI (ao : Option Addr) (len cap k : Nat) (v : Value) : Prop := (∃ a, v = .slice a (len - k) (cap - k)) ∧ (k < len → ∀ b off, ao = some ⟨b, off, none⟩ → v = .slice (some ⟨b, off + k, none⟩) (len - k) (cap - k))

theorem placeL_i64 {L fs : List Int} (hL : ∀ z ∈ L, I64 z) (hf : ∀ z ∈ fs, I64 z) : ∀ i, ∀ z ∈ placeL L fs i, I64 z
  | 0, z, hz => hL z hz
  | i + 1, z, hz => by
    unfold placeL at hz
    split at hz
    · rcases List.mem_or_eq_of_mem_set hz with h | rfl
      · exact placeL_i64 hL hf i z h
      · by_cases hu : usedN L i < fs.length
        · rw [List.getD_eq_getElem?_getD, List.getElem?_eq_getElem hu]
          exact hf _ (List.getElem_mem _)
        · rw [getD_behind _ _ (by omega)]
          exact ⟨by decide, by decide⟩
    · exact placeL_i64 hL hf i z hz

set_option maxRecDepth 100000 in
set_option maxHeartbeats 6400000 in
theorem place_any (g : Nat) (L : List Int) (w0 w : World) (hO : OwnV w0.heap.size w0 g (ints L) w) (hL : L.length = 159) (hz : ∀ z ∈ L, I64 z) (ao : Option Addr) (len cap : Nat) (fs : List Int) (hA : IArg w0 ao len cap fs) (hn : usedN L 5 ≤ len) :
    Calls Tryz.prog 205 #[.pointer (some ⟨g, 0, none⟩), .slice ao len cap] w fun e w' => e = .returned (.tuple #[]) ∧ OwnV w0.heap.size w0 g (ints (placedL L fs)) w' := by
  have HO := Lib.hid hO
  have HL := Lib.hid hL
  have HA := Lib.hid hA
  have HN := Lib.hid hn
  have hlc := hA.2.2.2
  have HZ := Lib.hid (placeL_i64 (fs := fs) hz hA.2.1)
  clear hO hL hA hn hz
  have HV0 : Hid (LeftI ao len cap (usedN L 0) (.slice ao len cap)) := Lib.hid ⟨⟨ao, rfl⟩, fun _ b off h => by rw [h]; rfl⟩
  go_enter Tryz.func205, Tryz.ntmps205
  go_wp2_with fail
  go_loopw [1, 5] (fun sv iv wr => ∃ i : Nat, iv = .int .i64 (i : Int) ∧ i ≤ 5 ∧ Hid (LeftI ao len cap (usedN L i) sv) ∧ Hid (OwnV w0.heap.size w0 g (ints (placeL L fs i)) wr)) (fun _ iv _ => 5 - (intOf iv).toNat)
  case atStart => exact ⟨0, rfl, Nat.zero_le _, HV0, HO⟩
  case round =>
    obtain ⟨i, rfl, hi, HV, HR⟩ := hrel
    by_cases hlt : i < 5
    · have HPL : Hid ((placeL L fs i).length = 159) := Lib.hid (by rw [placeL_length, HL.out])
      have cN := needs_any (chart_of_own HR.out HPL.out) hlt
      rw [needs_low (placeL_low L fs i) hlt] at cN
      have i1 : (i : Int) < 5 := by omega
      have hu := usedN_succ L i
      cases hb : needsB L i with
      | false =>
        rw [hb] at cN hu
        have HU : Hid (usedN L (i + 1) = usedN L i) := Lib.hid hu
        have HPS : Hid (placeL L fs (i + 1) = placeL L fs i) := Lib.hid (by show (if needsB L i = true then _ else _) = _; rw [hb]; rfl)
        clear hb hu
        go_wp2_with (go_at_call 202; refine cN.mono ?_; rintro e w5 ⟨rfl, b5⟩; have B5 := Lib.hid b5; clear b5)
        go_roundw
        case rel => exact ⟨i + 1, by go_num, by omega, Lib.hid (by rw [HU.out]; exact HV.out), Lib.hid (by rw [HPS.out]; exact HR.out.later B5.out (by intro h; have := congrArg List.length h; rw [ints_length, HPL.out] at this; simp at this))⟩
        case measure => simp [intOf]; omega
      | true =>
        rw [hb] at cN hu
        have hu2 : usedN L i < len := by
          have h1 := usedN_mono L (show i + 1 ≤ 5 by omega)
          have h2 := HN.out
          have : (true : Bool).toNat = 1 := rfl
          omega
        have HU : Hid (usedN L (i + 1) = usedN L i + 1) := Lib.hid hu
        obtain ⟨b, off, rfl, hR, hc, _⟩ := restI _ (HA.out.later HR.out.2.2.2) hu2
        obtain rfl := HV.out.2 hu2 b off rfl
        have HPS : Hid (placeL L fs (i + 1) = (placeL L fs i).set (154 + i) (fs.getD (usedN L i) 0)) := Lib.hid (by show (if needsB L i = true then _ else _) = _; rw [hb]; rfl)
        have HU2 := Lib.hid hu2
        obtain ⟨U, hU⟩ : ∃ U, usedN L i = U := ⟨_, rfl⟩
        rw [hU] at HU HPS HU2 hc hu2 ⊢
        have HCELL := Lib.hid hc
        clear hb hu hU hR
        go_wp2_with (go_at_call 202; refine cN.mono ?_; rintro e w5 ⟨rfl, b5⟩; have B5 := Lib.hid b5; clear b5)
        have HO5 : Hid (OwnV w0.heap.size w0 g (ints (placeL L fs i)) w5) := Lib.hid (HR.out.later B5.out (by intro h; have := congrArg List.length h; rw [ints_length, HPL.out] at this; simp at this))
        have hcl : w5.cell? ⟨b, off + U, none⟩ = some (.int .i64 (fs.getD U 0)) := cell_later B5.out HCELL.out
        have hc4 := HO5.out.1 (154 + i) _ (ints_get (x := (placeL L fs i).getD (154 + i) 0) (by rw [List.getD_eq_getElem?_getD, List.getElem?_eq_getElem (by rw [HPL.out]; omega)]; rfl))
        have hf4 := HO5.out.2.1 (154 + i)
        have HST : Hid (OwnV w0.heap.size w0 g (ints (placeL L fs (i + 1))) (w5.setCell ⟨g, 154 + i, none⟩ (.int .i64 (fs.getD U 0)))) := Lib.hid (by
          have h := HO5.out.store (k := 154 + i) (y := .int .i64 (fs.getD U 0)) (by rw [ints_length, HPL.out]; omega)
          rw [← ints_set, ← HPS.out] at h
          exact h)
        obtain ⟨l', hl'⟩ : ∃ l', len - U = l' := ⟨_, rfl⟩
        obtain ⟨c', hc'⟩ : ∃ c', cap - U = c' := ⟨_, rfl⟩
        have HLE : Hid (len - (U + 1) = l' - 1 ∧ cap - (U + 1) = c' - 1) := Lib.hid ⟨by omega, by omega⟩
        have l1 : 1 ≤ l' := by omega
        have l2 : l' ≤ c' := by omega
        rw [hl', hc']
        have l3 : (0 : Int) < (l' : Int) := by omega
        have n0 : 0 < l' := by omega
        have n1 : 1 ≤ c' := by omega
        have n2 : 0 < c' := by omega
        have n3 : i < 5 := hlt
        have l4 : (1 : Int) ≤ (l' : Int) := by omega
        have l5 : (1 : Int) ≤ (c' : Int) := by omega
        have i0 : (0 : Int) ≤ (i : Int) := by omega
        generalize (placeL L fs i).getD (154 + i) 0 = y at *
        generalize fs.getD U 0 = x at *
        clear hl' hc' hu2 hc
        have e1 : 154 + i * 1 = 154 + i := by omega
        by_cases hc1 : c' = 1
        · go_region
          all_goals go_wp2_with fail
          go_roundw
          case rel => exact ⟨i + 1, by go_num, by omega, Lib.hid (by
            rw [HU.out]
            have := HLE.out
            exact ⟨⟨_, by rw [this.1, this.2, hc1]⟩, fun h => by omega⟩), Lib.hid HST.out.drew⟩
          case measure => simp [intOf]; omega
        · go_region
          all_goals go_wp2_with fail
          go_roundw
          case rel => exact ⟨i + 1, by go_num, by omega, Lib.hid (by
            rw [HU.out]
            have := HLE.out
            exact ⟨⟨_, by rw [this.1, this.2]⟩, fun _ b' off' e => by
              simp only [Option.some.injEq, Addr.mk.injEq, and_true] at e
              obtain ⟨rfl, rfl⟩ := e
              rw [this.1, this.2, Nat.add_assoc]⟩), Lib.hid HST.out.drew⟩
          case measure => simp [intOf]; omega
    · obtain rfl : i = 5 := by omega
      have HPL : Hid ((placeL L fs 5).length = 159) := Lib.hid (by rw [placeL_length, HL.out])
      have HSRC : Hid (IArg wr.drew (some ⟨g, 156, none⟩) 3 3 (((placeL L fs 5).drop 156).take 3)) := Lib.hid (by
        have hl : (((placeL L fs 5).drop 156).take 3).length = 3 := by rw [List.length_take, List.length_drop, HPL.out]; decide
        have := iarg_of_range (w := wr.drew) (b := g) (off := 156) (cap := 3) (zs := ((placeL L fs 5).drop 156).take 3) (range_part (own_range HR.out.drew) 156 3) (fun z hz => HZ.out 5 z (List.mem_of_mem_drop (List.mem_of_mem_take hz))) (by omega) (by omega)
        rwa [hl] at this)
      have HCC := Lib.hid (own_copy_ints (off := 34) (len := 30) (cap := 30) HR.out.drew (by rw [HPL.out]; decide) _ _ _ _ HSRC.out 3)
      have HEND : Hid (lay (placeL L fs 5) 34 ((((placeL L fs 5).drop 156).take 3).take 30) = placedL L fs) := Lib.hid (by
        unfold placedL
        rw [List.take_of_length_le (l := ((placeL L fs 5).drop 156).take 3) (by rw [List.length_take]; omega)])
      go_wp2_with fail
      refine wp_region_still_tail 9 (by kernel_rfl) (by kernel_rfl) ?_
      simp only [List.take_succ_cons, List.take_zero, List.drop_succ_cons, List.drop_zero]
      try rw [drew_of_r]
      iterate 9 still_step
      refine wpStill_nil ?_
      go_wp2_with (refine wp_copy rfl (.tmp 26) (.tmp 30) 50 50 rfl _ _ rfl rfl _ HCC.out ?_; rintro v5 w5 ⟨rfl, hO5, hK5⟩; have HO5 := Lib.hid hO5; have HK5 := Lib.hid hK5; clear hO5 hK5)
      go_end0
      rw [HEND.out] at HO5
      exact ⟨rfl, HO5.out⟩

end Go.Proofs.YtmcblhgpcgnaoaaGreatDoor

