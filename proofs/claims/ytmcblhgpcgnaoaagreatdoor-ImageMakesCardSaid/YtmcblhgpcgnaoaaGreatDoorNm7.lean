/-
  Proved here: what slices.Grow of nothing and slices.Concat of lists of numbers answer. The conditions stand at each theorem. Proved here: what the landed flags' Mark answers of any sound runs, and the landed image's mark and free. The conditions stand at each theorem. Proved here: what the document's own reckoning of sound runs (drydockref02: Parts; drydockref05: size, begin) answers. The conditions stand at each theorem. Proved here: plain facts on which of the gaps is chosen. No conditions but those that each theorem names. Nothing of the program is read here. Proved here: what the document's own reckoning of the gaps that are chosen (drydockref05: First, Tight) answers. The conditions stand at each theorem. Proved here: what the landed code of package choose answers of one gap (count) and of two (its comparisons), and what run.Cut answers of a run. The conditions stand at each theorem. Proved here: plain facts on the gaps that are taken together, the longest first. No conditions but those that each theorem names. Nothing of the program is read here. Proved here: plain facts on what is chosen: the same errors, parts of gaps, each block once, one run where one will do. No conditions but those that each theorem names. Nothing of the program is read here. Proved here: plain facts on lists of gaps, and what slices.MinFunc answers of one (the least; of equals the first), and what choose's own predicate answers of a gap. The conditions stand at each theorem. Proved here: plain facts on arrays: two parts exchanged, two neighbouring parts turned round, equals that keep their order, merging by turning parts round, and sorting in blocks. No conditions but those that each theorem names. Nothing of the program is read here. Proved here: what the library's stable sort of gaps does (slices.SortStableFunc and what it leans on), the comparison a plain function of two gaps. The conditions stand at each theorem.
-/
import Derived.Test.YtmcblhgpcgnaoaaGreatDoorNm0
import Derived.Lib.AppendZeros
import Derived.Test.YtmcblhgpcgnaoaaGreatDoorNm6
import Derived.Deep.RegionWith
import Derived.Test.YtmcblhgpcgnaoaaGreatDoorLays
import Derived.Shelf.SlicesE.DeleteFunc
import Derived.Sort.LotA
import Derived.Sort.LotD2
import Derived.Shelf.SlSortCmp.Insertion1
import Derived.BigRegion
namespace Go.Proofs.YtmcblhgpcgnaoaaGreatDoor
open Go.RowKit
set_option linter.unusedVariables false
set_option linter.unusedSimpArgs false

theorem grown_row (w : World) (n : Nat) (h0 : 0 < n) (hn : n ≤ 100000) : (w.drew.alloc (.cells (Builtin.zeroCells (Value.int .i64 0).cells n ++ Builtin.zeroCells (Value.int .i64 0).cells (grownCap w n 0 3 - n)) 3)).ownsRow w.heap.size 3 1 (.slice (some ⟨w.heap.size, 0, none⟩) 0 (grownCap w n 0 3)) 0 [] := by
  have hge := grownCap_ge w n 0 3
  have hcm : grownCap w n 0 3 ≤ maxLen := grownCap_le_maxLen w n 0 _ (by unfold maxLen; omega)
  refine ⟨rfl, .inr ⟨w.heap.size, _, _, rfl, Nat.le_refl _, heap_alloc_new w.drew _, Nat.zero_le _, hcm, ?_, by simp⟩⟩
  rw [Array.size_append, size_zeroCells, size_zeroCells]
  show n * 1 + _ * 1 = _
  omega

set_option maxRecDepth 100000 in
set_option maxHeartbeats 1600000 in
theorem Grow_any (n : Nat) (w : World) (hn : n ≤ 100000) : Calls Tryz.prog 192 #[.slice none 0 0, .int .i64 n] w fun e w' => ∃ v, e = .returned v ∧ w'.ownsRow w.heap.size 3 1 v 0 [] ∧ Below w.heap.size w w' := by
  by_cases h0 : n = 0
  · subst h0
    go_enter Tryz.func192, Tryz.ntmps192
    go_wp2_with fail
    go_ret
    exact ⟨_, rfl, owns_nil_r _ _ _ _, Below.refl _ _⟩
  · obtain ⟨i0, hi0, hz0, hz1, hz2⟩ := info_parts elemI.2.1
    have hr := fun ty => Lib.run_append_nil_zeros (P := Tryz.prog) w 50 3 ty 3 i0 (.int .i64 0) .i64 .i64 Tryz.underlying50 Tryz.underlying3 hi0 hz0 n (by omega) (by rw [hz1]; decide) (by omega) (by rw [hz2]; omega)
    have HO := Lib.hid (grown_row w n (by omega) hn)
    have HG : Hid (0 ≤ grownCap w n 0 3) := Lib.hid (Nat.zero_le _)
    have HR := Lib.hid hr
    have n1 : ¬ ((n : Int) < 0) := by omega
    have n2 : wrap64 (0 - 0) = 0 := by unfold wrap64; omega
    have n3 : wrap64 ((n : Int) - 0) = (n : Int) := by unfold wrap64; omega
    have n4 : (0 : Int) < (n : Int) := by omega
    clear hr hi0 hz0 hz1 hz2 h0
    go_enter Tryz.func192, Tryz.ntmps192
    go_wp2_with (at_builtin; refine Lib.wpList_append_run _ rfl (.tmp 20) (.tmp 21) _ _ rfl _ _ rfl rfl _ _ (HR.out _) ?_)
    go_ret
    exact ⟨_, rfl, HO.out, (((Below.refl _ _).drew).alloc (Nat.le_refl _) _)⟩

/-- A row of lists of numbers. -/
def ListsIn (w : World) (b off : Nat) (ls : List (List Int)) : Prop :=
  ∀ j zs, ls[j]? = some zs → ∃ a l c, w.cell? ⟨b, off + j, none⟩ = some (.slice a l c) ∧ IArg w a l c zs

theorem ListsIn.later {w wx : World} {b off : Nat} {ls : List (List Int)} (h : ListsIn w b off ls) (hb : Below w.heap.size w wx) : ListsIn wx b off ls := fun j zs hj => by
  obtain ⟨a, l, c, h1, h2⟩ := h j zs hj
  exact ⟨a, l, c, cell_later hb h1, h2.later hb⟩

def lenL (ls : List (List Int)) : Nat := (ls.map List.length).sum
theorem len_take {ls : List (List Int)} {i : Nat} {zs : List Int} (h : ls[i]? = some zs) : lenL (ls.take (i + 1)) = lenL (ls.take i) + zs.length := by
  unfold lenL
  rw [List.take_add_one, h]
  simp
theorem len_le (ls : List (List Int)) (i : Nat) : lenL (ls.take i) ≤ lenL ls := by
  conv => rhs; rw [← List.take_append_drop i ls]
  unfold lenL
  rw [List.map_append, List.sum_append]
  omega

set_option maxRecDepth 100000 in
set_option maxHeartbeats 3200000 in
theorem Concat_any (b off n cap : Nat) (ls : List (List Int)) (w : World) (hn : ls.length = n) (hL : ListsIn w b off ls) (h100 : lenL ls ≤ 10000) (hn100 : n ≤ 100) : Calls Tryz.prog 136 #[.slice (some ⟨b, off, none⟩) n cap] w fun e w' => ∃ v, e = .returned v ∧ w'.ownsRow w.heap.size 3 1 v (lenL ls) (ints ls.flatten) ∧ Below w.heap.size w w' := by
  have HL := Lib.hid hL
  have HN := Lib.hid hn
  have H100 := Lib.hid h100
  clear hL h100
  go_enter Tryz.func136, Tryz.ntmps136
  go_wp2_with fail
  go_loopw [3, 11] (fun sv iv wr => ∃ i : Nat, iv = .int .i64 (i : Int) ∧ sv = .int .i64 ((lenL (ls.take i) : Nat) : Int) ∧ i ≤ n ∧ Hid (w = wr)) (fun _ iv _ => n - (intOf iv).toNat)
  case atStart => exact ⟨0, rfl, rfl, Nat.zero_le _, Lib.hid rfl⟩
  case round =>
    obtain ⟨i, rfl, rfl, hi, HW⟩ := hrel
    by_cases hlt : i < n
    · obtain ⟨zs, hzs⟩ : ∃ zs, ls[i]? = some zs := ⟨_, List.getElem?_eq_getElem (by rw [hn]; exact hlt)⟩
      obtain ⟨a, l, c, d1, d2⟩ := HL.out i zs hzs
      have d1 : wr.cell? ⟨b, off + i, none⟩ = some (.slice a l c) := by rw [← HW.out]; exact d1
      have hs := len_take hzs
      have hle := len_le ls (i + 1)
      have h100 := H100.out
      rw [d2.len] at hs
      have HS := Lib.hid hs
      have i1 : (i : Int) < (n : Int) := by omega
      have s1 : wrap64 (((lenL (ls.take i) : Nat) : Int) + (l : Int)) = ((lenL (ls.take (i + 1)) : Nat) : Int) := by unfold wrap64; omega
      have s2 : ¬ (((lenL (ls.take (i + 1)) : Nat) : Int) < 0) := by omega
      clear d2 hs hle h100 hzs
      go_wp2_with fail
      go_roundw
      case rel => exact ⟨i + 1, by go_num, by rw [s1], by omega, HW⟩
      case measure => simp [intOf]; omega
    · obtain rfl : i = n := by omega
      have HT : Hid (lenL (ls.take i) = lenL ls) := Lib.hid (by rw [← hn, List.take_length])
      have HT2 : Hid ((ints (ls.take i).flatten) = ints ls.flatten) := Lib.hid (by rw [← hn, List.take_length])
      have cG := Grow_any (lenL ls) wr (by have := H100.out; omega)
      rw [← HW.out] at cG
      have HW2 := HW.out
      subst HW2
      rw [HT.out]
      go_wp2_with (go_at_call 192; refine cG.mono ?_; rintro e w2 ⟨v, rfl, ho, hb⟩; have HO := Lib.hid ho; have HB := Lib.hid hb; clear ho hb)
      go_loopw [6, 27] (fun sv iv wr => ∃ k : Nat, iv = .int .i64 (k : Int) ∧ k ≤ i ∧ Hid (wr.ownsRow w.heap.size 3 1 sv (lenL (ls.take k)) (ints (ls.take k).flatten)) ∧ Hid (Below w.heap.size w wr)) (fun _ iv _ => i - (intOf iv).toNat)
      case atStart => exact ⟨0, rfl, Nat.zero_le _, HO, HB⟩
      case round =>
        obtain ⟨k, rfl, hk, HR, HBR⟩ := hrel
        by_cases hlt : k < i
        · obtain ⟨zs, hzs⟩ : ∃ zs, ls[k]? = some zs := ⟨_, List.getElem?_eq_getElem (by rw [hn]; exact hlt)⟩
          obtain ⟨a, l, c, d1, d2⟩ := (HL.out.later HBR.out) k zs hzs
          have hs := len_take hzs
          have hle := len_le ls (k + 1)
          have h100 := H100.out
          have hlen := d2.len
          rw [hlen] at hs
          have HS := Lib.hid hs
          have HF : Hid (ints (ls.take (k + 1)).flatten = ints (ls.take k).flatten ++ ints zs) := Lib.hid (by rw [List.take_add_one, hzs, List.flatten_append, ints_append]; simp)
          have k1 : (k : Int) < (i : Int) := by omega
          have HNum : Hid (lenL (ls.take k) + l ≤ 100000) := Lib.hid (by omega)
          have HSZ := Lib.hid HBR.out.size
          have HLn := Lib.hid hlen
          cases a with
          | none =>
            obtain ⟨rfl, rfl⟩ := d2.2.2.1 rfl
            have HZ : Hid (zs = []) := Lib.hid (List.length_eq_zero_iff.1 hlen)
            clear d2 hs hle h100 hzs hlen
            go_wp2_with (at_builtin; refine wp_append_nothing elemIR rfl (.tmp 31) (.tmp 32) rfl w.heap.size (lenL (ls.take k)) _ _ rfl HR.out rfl ?_)
            go_roundw
            case rel => exact ⟨k + 1, by go_num, by omega, Lib.hid (by rw [HF.out, HS.out, HZ.out]; simpa [ints] using HR.out), HBR⟩
            case measure => simp [intOf]; omega
          | some ad =>
            have HNW := Lib.hid d2.news
            clear d2 hs hle h100 hzs hlen
            go_wp2_with (at_builtin; refine wp_append_r elemIR rfl (.tmp 31) (.tmp 32) rfl w.heap.size (lenL (ls.take k)) _ _ rfl HR.out ad l c (ints zs) (by rw [ints_length, HLn.out, Nat.mul_one]) rfl HNW.out (ints_one zs) HNum.out HSZ.out ?_; intro v1 w1 hown1 hg1 hb1; have HO1 := Lib.hid hown1; have HB1 := Lib.hid (HBR.out.trans hb1); clear hown1 hg1 hb1)
            go_roundw
            case rel => exact ⟨k + 1, by go_num, by omega, Lib.hid (by rw [HF.out, HS.out]; exact HO1.out), HB1⟩
            case measure => simp [intOf]; omega
        · obtain rfl : k = i := by omega
          have HR2 : Hid (wr.ownsRow w.heap.size 3 1 u6 (lenL ls) (ints ls.flatten)) := Lib.hid (by rw [← HT.out, ← HT2.out]; exact HR.out)
          go_wp2_with fail
          go_ret
          exact ⟨_, rfl, HR2.out, HBR.out⟩

end Go.Proofs.YtmcblhgpcgnaoaaGreatDoor


namespace Go.Proofs.YtmcblhgpcgnaoaaGreatDoor
open Go.RowKit
set_option linter.unusedVariables false
set_option linter.unusedSimpArgs false

/-- Sound runs of blocks. -/
def okRuns (rs : List (Nat × Nat)) : Prop := ∀ r ∈ rs, 1 ≤ r.2 ∧ r.1 + r.2 ≤ 480

set_option maxRecDepth 100000 in
set_option maxHeartbeats 1600000 in
theorem markAll_any (ao : Option Addr) (cap : Nat) (zs : List Int) (up : Bool) (ro : Option Addr) (m rcap : Nat) (xs : List Value) (rs : List (Nat × Nat)) (w : World) (hA : Arg w ao 60 cap zs) (hR : Vals w ro m xs) (hS : Stands xs rs) (hok : okRuns rs) (hm : m ≤ 100000) :
    Calls Tryz.prog 45 #[.slice ao 60 cap, .bool up, .slice ro m rcap] w (Handed w.heap.size w (markP zs up rs) 0) := by
  obtain ⟨hB, _, hcap, hlen⟩ := hA
  have hml : rs.length = m := by rw [← hS.1, hR.1]
  have cN := New_own w
  have HL := Lib.hid hB.1
  have HB := Lib.hid hB
  have HR := Lib.hid hR
  have HS := Lib.hid hS
  have HOK := Lib.hid hok
  have HZ : Hid (lay (List.replicate 60 0) 0 zs = zs) := Lib.hid (by
    rw [lay_eq _ _ _ (by rw [HL.out]; decide), HL.out]
    simp)
  have HML := Lib.hid hml
  have H0 : Hid (markP zs up (rs.take 0) = zs) := Lib.hid (markP_nil up hB.1 hB.2.2.1)
  clear hB hR hS hok hml
  go_enter Tryz.func45, Tryz.ntmps45
  go_wp2_with (first | (go_at_call 46; refine cN.mono ?_; rintro e w1 ⟨rfl, hO1⟩; have HO := Lib.hid hO1; have HBW := Lib.hid (HB.out.later hO1.2.2.2.2); clear hO1) | (refine wp_copy rfl (.tmp 19) (.tmp 20) 62 62 rfl _ _ rfl rfl _ (own_copy_bytes HO.out (by decide) ao 60 cap zs HBW.out (by decide) _) ?_; rintro v2 w2 ⟨rfl, hO2⟩; rw [HZ.out] at hO2; have HO2 := Lib.hid hO2; clear hO2))
  have HM2 : Hid (Own w.heap.size w w.heap.size (markP zs up (rs.take 0)) w2) := Lib.hid (by rw [H0.out]; exact HO2.out)
  clear cN
  go_loopw [24] (fun iv wr => ∃ i : Nat, i ≤ m ∧ iv = .int .i64 i ∧ Hid (Own w.heap.size w w.heap.size (markP zs up (rs.take i)) wr)) (fun iv _ => m - (intOf iv).toNat)
  case atStart => exact ⟨0, Nat.zero_le _, rfl, HM2⟩
  case round =>
    obtain ⟨i, hi, rfl, HM⟩ := hrel
    by_cases hlt : i < m
    · have hbw : Below w.heap.size w wr := HM.out.2.2.2.2
      obtain ⟨⟨a, b⟩, hr⟩ : ∃ r, rs[i]? = some r := ⟨_, List.getElem?_eq_getElem (by rw [HML.out]; exact hlt)⟩
      obtain ⟨hb1, hab⟩ := HOK.out _ (List.mem_of_getElem? hr)
      have hb1 : 1 ≤ b := hb1
      have hab : a + b ≤ 480 := hab
      obtain ⟨v, hv⟩ : ∃ v, xs[i]? = some v := ⟨_, List.getElem?_eq_getElem (by rw [HR.out.1]; exact hlt)⟩
      obtain ⟨x, y, rfl, hx, hy⟩ := HS.out.2 i v (a, b) hv hr
      obtain ⟨rb, roff, rfl, hrc⟩ := HR.out.2.2.resolve_left (by omega)
      have hcell := cell_later hbw (hrc i _ hv)
      have HT : Hid (rs.take (i + 1) = rs.take i ++ [(a, b)]) := Lib.hid (by rw [List.take_add_one, hr]; rfl)
      have HN : Hid (Own w.heap.size w w.heap.size (markP zs up (rs.take i ++ [(a, 0)])) wr) := Lib.hid (by rw [markP_zero]; exact HM.out)
      have cP := Parts_any x y a b wr hx hy (by omega) (by omega) (by omega)
      have i2 : (i : Int) < m := by omega
      clear HM hbw hr hv hx hy hrc HM2
      go_wp2_with (go_at_call 99; refine cP.mono ?_; rintro e w' ⟨rfl, rfl⟩)
      clear cP hcell
      go_loopw [37] (fun jv wr => ∃ j : Nat, j ≤ b ∧ jv = .int .i64 j ∧ Hid (Own w.heap.size w w.heap.size (markP zs up (rs.take i ++ [(a, j)])) wr)) (fun jv _ => b - (intOf jv).toNat)
      case atStart => exact ⟨0, Nat.zero_le _, rfl, HN⟩
      case round =>
        obtain ⟨j, hj, rfl, HJ⟩ := hrel
        by_cases hlt2 : j < b
        · have cS := set_any w.heap.size w w.heap.size _ (a + j) up wr HJ.out (markP_length _ _ _) (by omega)
          rw [show ((a + j : Nat) : Int) = (a : Int) + (j : Int) by omega] at cS
          clear HJ
          go_wp2_with (go_at_call 100; refine cS.mono ?_; rintro e w3 ⟨M, rfl, hO3, hl3, hf3⟩; have HJ3 : Hid (Own w.heap.size w w.heap.size (markP zs up (rs.take i ++ [(a, j + 1)])) w3) := Lib.hid (by rw [← markP_step hl3 hO3.1 hf3]; exact hO3); clear hO3 hl3 hf3)
          go_roundw
          case rel => exact ⟨j + 1, by omega, by go_num, HJ3⟩
          case measure => simp [intOf]; omega
        · have hjb : j = b := by omega
          have HB3 : Hid (Own w.heap.size w w.heap.size (markP zs up (rs.take (i + 1))) wr) := Lib.hid (by rw [HT.out, ← hjb]; exact HJ.out)
          clear HJ
          subst hjb
          go_wp2_with fail
          go_roundw
          case rel => exact ⟨i + 1, by omega, by go_num, HB3⟩
          case measure => simp [intOf]; omega
    · have him : i = m := by omega
      have HM3 : Hid (Own w.heap.size w w.heap.size (markP zs up rs) wr) := Lib.hid (by have h := HM.out; rwa [List.take_of_length_le (by rw [HML.out]; omega)] at h)
      have HF := Lib.hid (HM3.out.fresh (cap := 60) (by rw [markP_length]; decide) (by rw [markP_length]; decide))
      have HBl := Lib.hid HM3.out.2.2.2.2
      clear HM HM2
      subst him
      go_wp2_with fail
      go_ret2
      have hf := HF.out
      rw [markP_length] at hf
      exact ⟨_, rfl, hf, HBl.out⟩

/-- Numbers of blocks, or 0. -/
def okNums (l : List Int) : Prop := ∀ x ∈ l, 0 ≤ x ∧ x < 480
theorem okRuns_of {l : List Int} (h : okNums l) : okRuns (runsOf l) := fun r hr => by
  unfold runsOf at hr
  obtain ⟨x, hx, rfl⟩ := List.mem_map.1 hr
  obtain ⟨hx, h0⟩ := List.mem_filter.1 hx
  have h1 := h x hx
  exact ⟨Nat.le_refl _, by show x.toNat + 1 ≤ 480; omega⟩
theorem okRuns_pairs {rs : List (Nat × Nat)} (h : okRuns rs) : ∀ p ∈ rs, p.1 + p.2 ≤ 480 := fun p hp => (h p hp).2
theorem runsOf_length (l : List Int) : (runsOf l).length ≤ l.length := by
  unfold runsOf
  rw [List.length_map]
  exact List.length_filter_le _ _

/-- The runs so far, in a row of the call's own. -/
def RunsRow (base : Nat) (w0 : World) (v : Value) (rs : List (Nat × Nat)) (wr : World) : Prop :=
  wr.ownsRow base 93 1 v rs.length (rs.map cV) ∧ Below base w0 wr

set_option maxRecDepth 100000 in
set_option maxHeartbeats 1600000 in
theorem imark_any (ao : Option Addr) (cap : Nat) (zs : List Int) (up : Bool) (b off n lc : Nat) (ls : List (List Int)) (w : World) (hA : Arg w ao 60 cap zs) (hn : ls.length = n) (hL : ListsIn w b off ls) (h100 : lenL ls ≤ 10000) (hn100 : n ≤ 100) (hok : okNums ls.flatten) :
    Calls Tryz.prog 80 #[.slice ao 60 cap, .bool up, .slice (some ⟨b, off, none⟩) n lc] w (Gives w.heap.size w (markL zs up ls.flatten)) := by
  have cC := Concat_any b off n lc ls w hn hL h100 hn100
  have hlen : ls.flatten.length = lenL ls := by unfold lenL; rw [List.length_flatten]
  obtain ⟨l, hl⟩ : ∃ l, ls.flatten = l := ⟨_, rfl⟩
  obtain ⟨N, hN⟩ : ∃ N, lenL ls = N := ⟨_, rfl⟩
  rw [hl, hN] at cC
  rw [hl] at hok ⊢
  rw [hl, hN] at hlen
  rw [hN] at h100
  have HA := Lib.hid hA
  have HOK := Lib.hid hok
  have HLN := Lib.hid hlen
  have HI : Hid (∀ z ∈ l, I64 z) := Lib.hid (fun z hz => by have := hok z hz; unfold I64; omega)
  clear hA hn hL hl hN hok hlen hn100
  go_enter Tryz.func80, Tryz.ntmps80
  go_wp2_with (go_at_call 136; refine cC.mono ?_; rintro e w1 ⟨v, rfl, ho, hb⟩; obtain ⟨co, cc, rfl, hI1, _⟩ := fresh_of_ints ho HI.out (by omega); rw [HLN.out] at hI1 ⊢; have HI1 := Lib.hid hI1; have HB1 := Lib.hid hb; clear ho hb hI1)
  clear cC
  have HR0 : Hid (RunsRow w1.heap.size w1 (.slice none 0 0) (runsOf (l.take 0)) w1) := Lib.hid ⟨World.ownsRow_nil w1 w1.heap.size 93 1, Below.refl _ _⟩
  go_loopw [7, 13] (fun vv iv wr => ∃ i : Nat, i ≤ N ∧ iv = .int .i64 i ∧ Hid (RunsRow w1.heap.size w1 vv (runsOf (l.take i)) wr)) (fun _ iv _ => N - (intOf iv).toNat)
  case atStart => exact ⟨0, Nat.zero_le _, rfl, HR0⟩
  case round =>
    obtain ⟨i, hi, rfl, HR⟩ := hrel
    by_cases hlt : i < N
    · obtain ⟨cb, coff, x, rfl, hx, hcell, hx64⟩ := HI1.out.at hlt
      have hx0 := HOK.out x (List.mem_of_getElem? hx)
      have hcell := cell_later HR.out.2 hcell
      have HT : Hid (runsOf (l.take (i + 1)) = if x = 0 then runsOf (l.take i) else runsOf (l.take i) ++ [(x.toNat, 1)]) := Lib.hid (by
        rw [List.take_add_one, hx]
        exact runsOf_snoc _ _)
      have hlen2 : (runsOf (l.take i)).length ≤ 10000 := by
        have := runsOf_length (l.take i)
        rw [List.length_take] at this
        omega
      obtain ⟨acc, hacc⟩ : ∃ acc, runsOf (l.take i) = acc := ⟨_, rfl⟩
      rw [hacc] at HR hlen2 HT
      have i2 : (i : Int) < N := by omega
      clear hx hacc HR0
      obtain ⟨ho, hbw⟩ := HR.out
      have HO := Lib.hid ho
      have HW := Lib.hid hbw
      have HS : Hid (w1.heap.size ≤ wr.heap.size + 1) := Lib.hid (by have := hbw.size; omega)
      clear ho hbw HR
      by_cases h0 : x = 0
      · have HE : Hid (RunsRow w1.heap.size w1 _ (runsOf (l.take (i + 1))) wr) := Lib.hid (by rw [HT.out, if_pos h0]; exact ⟨HO.out, HW.out⟩)
        subst h0
        go_wp2_with fail
        go_roundw
        case rel => exact ⟨i + 1, by omega, by go_num, HE⟩
        case measure => simp [intOf]; omega
      · have hne : (x != 0) = true := by simpa using h0
        have HE : Hid (∀ v1 w1', w1'.ownsRow w1.heap.size 93 1 v1 (acc.length + 1) (acc.map cV ++ [cV (x.toNat, 1)]) → Below w1.heap.size w1 w1' → RunsRow w1.heap.size w1 v1 (runsOf (l.take (i + 1))) w1') := Lib.hid (fun v1 w1' h1 h2 => by
          rw [HT.out, if_neg h0]
          exact ⟨by rw [List.length_append, List.map_append]; exact h1, h2⟩)
        have cO := OfF_any x.toNat 1 wr (by omega) (by omega)
        rw [show ((x.toNat : Nat) : Int) = x by omega] at cO
        have HX : Hid (cV (x.toNat, 1) = .complex .f64 (floatOfInt .f64 x) (floatOfInt .f64 1)) := Lib.hid (by unfold cV; rw [show (((x.toNat, 1) : Nat × Nat).1 : Int) = x from by show ((x.toNat : Nat) : Int) = x; omega]; rfl)
        clear h0 HT
        go_wp2_with (first | (go_at_call 48; refine cO.mono ?_; rintro e w'' ⟨rfl, rfl⟩) | (go_at_call 47; refine (mustC_any _ _).mono ?_; rintro e w'' ⟨rfl, rfl⟩) | (at_builtin; refine wp_append_one elemComplex rfl (.tmp 19) (.tmp 25) rfl w1.heap.size acc.length _ _ rfl (HO.out.alloc _) ⟨wr.heap.size, 0, none⟩ 1 _ rfl (one_cell_new _ _ _) rfl rfl (by omega) (by simpa using HS.out) ?_; intro v1 w1' hown1 hb1; have HO1 := Lib.hid hown1; have HB2 := Lib.hid hb1; clear hown1 hb1))
        go_roundw
        case rel => exact ⟨i + 1, by omega, by go_num, Lib.hid (HE.out _ _ (by rw [HX.out]; exact HO1.out) ((HW.out.alloc (by have := HW.out.size; exact this) _).trans HB2.out))⟩
        case measure => simp [intOf]; omega
    · have hit : i = N := by omega
      subst hit
      have hfull : l.take i = l := List.take_of_length_le (by rw [HLN.out]; exact Nat.le_refl _)
      have hR := HR.out
      rw [hfull] at hR
      have hrl : (runsOf l).length ≤ 10000 := by have := runsOf_length l; have := HLN.out; omega
      obtain ⟨ro, rcap, rfl, hV, hrc, _⟩ := owns_vals hR.1 (by omega)
      have hml : ((runsOf l).map cV).length = (runsOf l).length := List.length_map _
      rw [hml] at hV
      have HBW : Hid (Below w.heap.size w wr) := Lib.hid (HB1.out.trans (hR.2.mono HB1.out.size))
      have HM : Hid (Calls Tryz.prog 45 #[.slice ao 60 cap, .bool up, .slice ro (runsOf l).length rcap] wr (Handed wr.heap.size wr (markL zs up l) 0)) := Lib.hid (markAll_any ao cap zs up ro _ rcap _ (runsOf l) wr (HA.out.later HBW.out) hV (stands_cV (okRuns_pairs (okRuns_of HOK.out))) (okRuns_of HOK.out) (by omega))
      rw [hml]
      obtain ⟨M, hM⟩ : ∃ M, (runsOf l).length = M := ⟨_, rfl⟩
      rw [hM] at HM ⊢
      clear hR hV hrc hml hM hfull HR HR0 hrl
      go_wp2_with (first | (go_at_call 45; refine HM.out.mono ?_; rintro e w3 ⟨v3, rfl, hf3, hb3⟩; have HF3 := Lib.hid hf3; have HB3 := Lib.hid (HBW.out.trans (hb3.mono HBW.out.size)); clear hf3 hb3) | (go_at_call 42; refine (mustB_any _ _).mono ?_; rintro e w'' ⟨rfl, rfl⟩))
      go_ret
      exact ⟨v3, rfl, HF3.out.mono HBW.out.size, HB3.out⟩
end Go.Proofs.YtmcblhgpcgnaoaaGreatDoor


namespace Go.Proofs.YtmcblhgpcgnaoaaGreatDoor
open Go.RowKit

set_option maxHeartbeats 400000 in
theorem part01c_any (x : Nat) (n : Int) (w : World) (h : FI x n) (h0 : -1048576 ≤ n) (h1 : n ≤ 1048576) :
    Calls Tryz.prog 228 #[.float .f64 x] w fun e w' => e = .returned (.tuple #[.int .i64 n, .bool true]) ∧ w = w' := by
  have o1 := fi_ge h fi_neg20 h0
  have o2 := fi_le h fi_20 h1
  have o3 := fi_eq (fi_ofInt n (by omega)) h rfl
  have hv := fi_toInt .i64 h (by show -9223372036854775808 ≤ n; omega) (by show n ≤ 9223372036854775807; omega)
  have o4 : ∀ w, (convert 166 3 (.float .f64 x)).run Tryz.prog w = .ok (.int .i64 n) w := fun w => run_convert_float_int w 166 3 .f64 .i64 x n (by rw [Tryz.underlying166]; rfl) Tryz.underlying3 hv
  clear h hv
  go_enter Tryz.func228, Tryz.ntmps228
  go_wp2_with fail
  go_ret2
  exact ⟨rfl, rfl⟩

set_option maxHeartbeats 400000 in
theorem Of01c_any (x y : Nat) (a b : Int) (w : World) (hx : FI x a) (hy : FI y b) (ha : -1048576 ≤ a ∧ a ≤ 1048576) (hb : -1048576 ≤ b ∧ b ≤ 1048576) :
    Calls Tryz.prog 180 #[.complex .f64 x y] w (Tells w.heap.size w (.tuple #[.agg #[.int .i64 a, .int .i64 b], .bool true])) := by
  have c1 := fun w => part01c_any x a w hx ha.1 ha.2
  have c2 := fun w => part01c_any y b w hy hb.1 hb.2
  have C1 := Lib.hid c1
  have C2 := Lib.hid c2
  clear c1 c2 hx hy
  go_enter Tryz.func180, Tryz.ntmps180
  go_wp2_with (go_at_call 228; first | ((with_reducible refine (C1.out _).mono ?_); rintro e w' ⟨rfl, rfl⟩) | ((with_reducible refine (C2.out _).mono ?_); rintro e w' ⟨rfl, rfl⟩))
  exact bodyPost_ret (v := .tuple #[.agg #[.int .i64 a, .int .i64 b], .bool true]) (by simp [results, Tryz.results180, go_sem]) rfl ⟨rfl, (Below.refl _ _).alloc (Nat.le_refl _) _⟩

set_option maxHeartbeats 800000 in
theorem Parts02c_any (x y : Nat) (a b : Int) (w : World) (hx : FI x a) (hy : FI y b) (h0 : 0 ≤ a) (h1 : 1 ≤ b) (h2 : a + b ≤ 480) :
    Calls Tryz.prog 131 #[.complex .f64 x y] w (Tells w.heap.size w (.tuple #[.int .i64 a, .int .i64 b, .bool true])) := by
  have c := Of01c_any x y a b w hx hy (by omega) (by omega)
  have d1 : decide (0 ≤ a) = true := by simpa using h0
  have d2 : decide (1 ≤ b) = true := by simpa using h1
  have hw : IntKind.i64.wrap (a + b) = a + b := IntWalk.i64_in _ (by omega)
  clear hx hy
  go_enter Tryz.func131, Tryz.ntmps131
  go_wp2_with (go_at_call 180; refine c.mono ?_; rintro e w1 ⟨rfl, hb1⟩; have HB1 := Lib.hid hb1; clear hb1)
  go_quiet (fail)
  clear d1 d2 hw
  go_wp2_with fail
  go_ret3
  exact ⟨rfl, below_drewN (HB1.out.alloc HB1.out.size _) _⟩

/-! Which gap is chosen -/

def gapErr (len : Nat) (n lo hi : Int) : Int := if downErr len lo hi ≠ 0 then downErr len lo hi else if n < 1 ∨ 480 < n then 1 else 0

end Go.Proofs.YtmcblhgpcgnaoaaGreatDoor



namespace Go.Proofs.YtmcblhgpcgnaoaaGreatDoor

/-- Of the gaps of at least n the shortest, of equal ones the first: one step. -/
def tighter (n : Nat) (best : Option (Nat × Nat)) (p : Nat × Nat) : Option (Nat × Nat) :=
  match best with
  | none => if n ≤ p.2 then some p else none
  | some b => if n ≤ p.2 ∧ p.2 < b.2 then some p else some b

def tightGap (l : List (Nat × Nat)) (n : Nat) : Option (Nat × Nat) := l.foldl (tighter n) none

/-- The error, behind the gaps' own. -/
def pickErr (E : Int) (o : Option (Nat × Nat)) : Int := if E = 0 then (if o = none then 6 else 0) else E
/-- The run of the first n blocks of what was chosen; none: 0. -/
def pickOut (E : Int) (o : Option (Nat × Nat)) (n : Nat) : Nat × Nat :=
  if E = 0 then (match o with | some p => (p.1, n) | none => (0, 0)) else (0, 0)

end Go.Proofs.YtmcblhgpcgnaoaaGreatDoor


namespace Go.Proofs.YtmcblhgpcgnaoaaGreatDoor
open Go.RowKit

/-- A call that hands back one run and an error's number, and makes new memory alone. -/
def HandedRun (base : Nat) (w0 : World) (p : Nat × Nat) (err : Int) (e : Ending) (w' : World) : Prop :=
  ∃ x y, e = .returned (.tuple #[.complex .f64 x y, .int .i64 err]) ∧ FI x (p.1 : Int) ∧ FI y (p.2 : Int) ∧ Below base w0 w'

theorem gap_ok {len : Nat} {n lo hi : Int} (h : gapErr len n lo hi = 0) : 1 ≤ n ∧ n ≤ 480 := by
  unfold gapErr at h
  by_cases h1 : downErr len lo hi = 0
  · rw [if_neg (by simp [h1])] at h
    by_cases h2 : n < 1 ∨ 480 < n
    · rw [if_pos h2] at h; exact absurd h (by decide)
    · omega
  · rw [if_pos h1] at h; exact absurd h h1

end Go.Proofs.YtmcblhgpcgnaoaaGreatDoor



namespace Go.Proofs.YtmcblhgpcgnaoaaGreatDoor
open Go.RowKit

/-- A complex number that stands for a run of blocks, or 0: its two parts as floats' bits, and the numbers that they are. -/
def Gp : Type := { z : (Nat × Nat) × (Nat × Nat) // FI z.1.1 (z.2.1 : Int) ∧ FI z.1.2 (z.2.2 : Int) ∧ z.2.1 + z.2.2 ≤ 480 ∧ (1 ≤ z.2.2 ∨ z = ((0, 0), (0, 0))) }

def mkG (a b : Nat) (p : Nat × Nat) (ha : FI a (p.1 : Int)) (hb : FI b (p.2 : Int)) (h : p.1 + p.2 ≤ 480) (h1 : 1 ≤ p.2) : Gp := ⟨((a, b), p), ha, hb, h, Or.inl h1⟩
def zeroG : Gp := ⟨((0, 0), (0, 0)), fi_zero, fi_zero, by decide, Or.inr rfl⟩
instance : Inhabited Gp := ⟨zeroG⟩
/-- As a value. -/
def encG (z : Gp) : Value := .complex .f64 z.1.1.1 z.1.1.2
/-- The first block, and how many. -/
def numG (z : Gp) : Nat × Nat := z.1.2

theorem gp_cases (z : Gp) : (1 ≤ (numG z).2 ∨ z = zeroG) := by
  obtain ⟨z, h1, h2, h3, h4⟩ := z
  rcases h4 with h | h
  · exact Or.inl h
  · exact Or.inr (Subtype.ext h)

theorem gp_bound (z : Gp) : (numG z).1 + (numG z).2 ≤ 480 := z.2.2.2.1
theorem gp_fst (z : Gp) : FI z.1.1.1 ((numG z).1 : Int) := z.2.1
theorem gp_snd (z : Gp) : FI z.1.1.2 ((numG z).2 : Int) := z.2.2.1

/-! ### 0 is no run -/

set_option maxHeartbeats 400000 in
theorem Sound_zero (w : World) :
    Calls Tryz.prog 164 #[.complex .f64 0 0] w fun e w' => e = .returned (.bool false) ∧ w = w' := by
  have c := Whole_any 0 0 0 0 w fi_zero fi_zero (by decide) (by decide)
  have o1 := fi_ge fi_zero fi_zero (Int.le_refl 0)
  have o2 := fi_lt fi_zero fi_one (by decide)
  go_enter Tryz.func164, Tryz.ntmps164
  go_wp2_with (go_at_call 219; refine c.mono ?_; rintro e w' ⟨rfl, rfl⟩)
  go_ret
  exact ⟨rfl, rfl⟩

set_option maxHeartbeats 400000 in
theorem Parts_zero (w : World) :
    Calls Tryz.prog 99 #[.complex .f64 0 0] w fun e w' => e = .returned (.tuple #[.int .i64 0, .int .i64 0, .int .i64 2]) ∧ w = w' := by
  have c := Sound_zero w
  go_enter Tryz.func99, Tryz.ntmps99
  go_wp2_with (go_at_call 164; refine c.mono ?_; rintro e w' ⟨rfl, rfl⟩)
  go_ret3
  exact ⟨rfl, rfl⟩

/-! ### One gap -/

theorem parts_gp (z : Gp) (w : World) :
    Calls Tryz.prog 99 #[encG z] w fun e w' => (∃ r : Int, e = .returned (.tuple #[.int .i64 (numG z).1, .int .i64 (numG z).2, .int .i64 r])) ∧ w = w' := by
  rcases gp_cases z with h | h
  · refine (Parts_any _ _ _ _ w (gp_fst z) (gp_snd z) (by omega) (by omega) (by have := gp_bound z; omega)).mono ?_
    rintro e w' ⟨rfl, rfl⟩
    exact ⟨⟨_, rfl⟩, rfl⟩
  · subst h
    refine (Parts_zero w).mono ?_
    rintro e w' ⟨rfl, rfl⟩
    exact ⟨⟨_, rfl⟩, rfl⟩

set_option maxHeartbeats 400000 in
theorem count_gp (z : Gp) (w : World) :
    Calls Tryz.prog 184 #[encG z] w fun e w' => e = .returned (.int .i64 (numG z).2) ∧ w = w' := by
  have c := parts_gp z w
  generalize ((numG z).1 : Int) = a at c
  generalize ((numG z).2 : Int) = b at c ⊢
  unfold encG at c ⊢
  go_enter Tryz.func184, Tryz.ntmps184
  go_wp2_with (go_at_call 99; refine c.mono ?_; rintro e w' ⟨⟨r, rfl⟩, rfl⟩)
  go_ret
  exact ⟨rfl, rfl⟩

/-! ### Two gaps -/

/-- -1, 0 or 1, as a is less than b, is b, or is greater. -/
def cmpN (a b : Nat) : Int := if a < b then -1 else if b < a then 1 else 0

set_option maxHeartbeats 400000 in
theorem isNaN_any (x : Nat) (a : Int) (w : World) (hx : FI x a) :
    Calls Tryz.prog 238 #[.float .f64 x] w fun e w' => e = .returned (.bool false) ∧ w = w' := by
  have o1 := fi_eq hx hx rfl
  clear hx
  go_enter Tryz.func238, Tryz.ntmps238
  go_wp2_with fail
  go_ret
  exact ⟨rfl, rfl⟩

set_option maxHeartbeats 800000 in
theorem Compare_float (x y a b : Nat) (w : World) (hx : FI x (a : Int)) (hy : FI y (b : Int)) :
    Calls Tryz.prog 191 #[.float .f64 x, .float .f64 y] w fun e w' => e = .returned (.int .i64 (cmpN a b)) ∧ w = w' := by
  have c1 := isNaN_any x a w hx
  have c2 := isNaN_any y b w hy
  unfold cmpN
  rcases Nat.lt_trichotomy a b with h | h | h
  · rw [if_pos h]
    have o1 := fi_lt hx hy (by omega)
    clear hx hy h
    go_enter Tryz.func191, Tryz.ntmps191
    go_wp2_with (go_at_call 238; first | ((with_reducible refine c1.mono ?_); rintro e w' ⟨rfl, rfl⟩) | ((with_reducible refine c2.mono ?_); rintro e w' ⟨rfl, rfl⟩))
    go_ret
    exact ⟨rfl, rfl⟩
  · rw [if_neg (by omega), if_neg (by omega)]
    have o1 := fi_eq hx hy (by omega)
    clear hx hy h
    go_enter Tryz.func191, Tryz.ntmps191
    go_wp2_with (go_at_call 238; first | ((with_reducible refine c1.mono ?_); rintro e w' ⟨rfl, rfl⟩) | ((with_reducible refine c2.mono ?_); rintro e w' ⟨rfl, rfl⟩))
    go_ret
    exact ⟨rfl, rfl⟩
  · rw [if_neg (by omega), if_pos h]
    have o1 := fi_gt hx hy (by omega)
    clear hx hy h
    go_enter Tryz.func191, Tryz.ntmps191
    go_wp2_with (go_at_call 238; first | ((with_reducible refine c1.mono ?_); rintro e w' ⟨rfl, rfl⟩) | ((with_reducible refine c2.mono ?_); rintro e w' ⟨rfl, rfl⟩))
    go_ret
    exact ⟨rfl, rfl⟩

set_option maxHeartbeats 800000 in
theorem Compare_int (a b : Nat) (w : World) :
    Calls Tryz.prog 183 #[.int .i64 a, .int .i64 b] w fun e w' => e = .returned (.int .i64 (cmpN a b)) ∧ w = w' := by
  unfold cmpN
  rcases Nat.lt_trichotomy a b with h | h | h
  · rw [if_pos h]
    have h1 : (a : Int) < (b : Int) := by omega
    clear h
    go_enter Tryz.func183, Tryz.ntmps183
    go_wp2
    all_goals (go_ret; exact ⟨rfl, rfl⟩)
  · rw [if_neg (by omega), if_neg (by omega)]
    subst h
    go_enter Tryz.func183, Tryz.ntmps183
    go_wp2
    all_goals (go_ret; exact ⟨rfl, rfl⟩)
  · rw [if_neg (by omega), if_pos h]
    have h1 : (b : Int) < (a : Int) := by omega
    have h2 : ¬ (a : Int) < (b : Int) := by omega
    clear h
    go_enter Tryz.func183, Tryz.ntmps183
    go_wp2
    all_goals (go_ret; exact ⟨rfl, rfl⟩)

/-- What a comparison of two gaps answers: a plain function; nothing else happens. -/
def Cmps (g : Nat) (cf : Gp → Gp → Int) : Prop := ∀ (x y : Gp) (w : World), Calls Tryz.prog g #[encG x, encG y] w fun e w' => e = .returned (.int .i64 (cf x y)) ∧ w = w'

def byFirst (x y : Gp) : Int := cmpN (numG x).1 (numG y).1
def byCount (x y : Gp) : Int := cmpN (numG x).2 (numG y).2
def byRest (x y : Gp) : Int := cmpN (numG y).2 (numG x).2

set_option maxHeartbeats 400000 in
theorem tight_cmp : Cmps 182 byCount := by
  intro x y w
  have c := Compare_int (numG x).2 (numG y).2 w
  have c1 := count_gp x w
  have c2 := count_gp y w
  unfold byCount
  generalize cmpN (numG x).2 (numG y).2 = r at c ⊢
  unfold encG at c1 c2 ⊢
  go_enter Tryz.func182, Tryz.ntmps182
  go_wp2_with (first | (go_at_call 183; refine c.mono ?_; rintro e w' ⟨rfl, rfl⟩) | (go_at_call 184; first | ((with_reducible refine c1.mono ?_); rintro e w' ⟨rfl, rfl⟩) | ((with_reducible refine c2.mono ?_); rintro e w' ⟨rfl, rfl⟩)))
  go_ret
  exact ⟨rfl, rfl⟩

set_option maxHeartbeats 400000 in
theorem rest_cmp : Cmps 187 byRest := by
  intro x y w
  have c := Compare_int (numG y).2 (numG x).2 w
  have c1 := count_gp x w
  have c2 := count_gp y w
  unfold byRest
  generalize cmpN (numG y).2 (numG x).2 = r at c ⊢
  unfold encG at c1 c2 ⊢
  go_enter Tryz.func187, Tryz.ntmps187
  go_wp2_with (first | (go_at_call 183; refine c.mono ?_; rintro e w' ⟨rfl, rfl⟩) | (go_at_call 184; first | ((with_reducible refine c1.mono ?_); rintro e w' ⟨rfl, rfl⟩) | ((with_reducible refine c2.mono ?_); rintro e w' ⟨rfl, rfl⟩)))
  go_ret
  exact ⟨rfl, rfl⟩

set_option maxHeartbeats 400000 in
theorem last_cmp : Cmps 190 byFirst := by
  intro x y w
  have c := Compare_float _ _ _ _ w (gp_fst x) (gp_fst y)
  unfold byFirst
  generalize cmpN (numG x).1 (numG y).1 = r at c ⊢
  unfold encG
  go_enter Tryz.func190, Tryz.ntmps190
  go_wp2_with (go_at_call 191; refine c.mono ?_; rintro e w' ⟨rfl, rfl⟩)
  go_ret
  exact ⟨rfl, rfl⟩

/-! ### A run in two parts -/

set_option maxHeartbeats 400000 in
theorem of_none (a b : Int) (w : World) (hb : b < 1) :
    Calls Tryz.prog 101 #[.int .i64 a, .int .i64 b] w fun e w' => e = .returned (.complex .f64 0 0) ∧ w = w' := by
  go_enter Tryz.func101, Tryz.ntmps101
  go_wp2
  go_ret
  exact ⟨rfl, rfl⟩

theorem of_some (a b : Nat) : ∃ x y, ∀ w : World,
    Calls Tryz.prog 101 #[.int .i64 a, .int .i64 b] w fun e w' => e = .returned (.complex .f64 x y) ∧ w = w' := by
  by_cases h : 1 ≤ b
  · exact ⟨_, _, fun w => ofF_any a b w h⟩
  · exact ⟨_, _, fun w => of_none a b w (by omega)⟩

set_option maxHeartbeats 800000 in
theorem Cut_any (x y a b n : Nat) (hx : FI x (a : Int)) (hy : FI y (b : Int)) (hn : 1 ≤ n) (hnb : n ≤ b) (hab : a + b ≤ 480) : ∃ u v, ∀ w : World,
    Calls Tryz.prog 231 #[.complex .f64 x y, .int .i64 n] w fun e w' => e = .returned (.tuple #[.complex .f64 (floatOfInt .f64 (a : Int)) (floatOfInt .f64 (n : Int)), .complex .f64 u v, .int .i64 0]) ∧ w' = w := by
  obtain ⟨u, v, hr⟩ := of_some (a + n) (b - n)
  refine ⟨u, v, fun w => ?_⟩
  have cP := Parts_any x y a b w hx hy (by omega) (by omega) (by omega)
  have c1 := ofF_any a n w hn
  have c2 := hr w
  rw [show ((a + n : Nat) : Int) = (a : Int) + (n : Int) by omega, show ((b - n : Nat) : Int) = (b : Int) - (n : Int) by omega] at c2
  have h1 : ¬ (n : Int) < 0 := by omega
  have h2 : ¬ (b : Int) < (n : Int) := by omega
  have h3 : IntKind.i64.wrap ((a : Int) + (n : Int)) = (a : Int) + (n : Int) := IntWalk.i64_in _ (by omega)
  have h4 : IntKind.i64.wrap ((b : Int) - (n : Int)) = (b : Int) - (n : Int) := IntWalk.i64_in _ (by omega)
  clear hx hy hn hnb hab hr
  go_enter Tryz.func231, Tryz.ntmps231
  go_wp2_with (first | (go_at_call 99; refine cP.mono ?_; rintro e w' ⟨rfl, rfl⟩) | (go_at_call 101; first | ((with_reducible refine c1.mono ?_); rintro e w' ⟨rfl, rfl⟩) | ((with_reducible refine c2.mono ?_); rintro e w' ⟨rfl, rfl⟩)))
  go_ret3
  exact ⟨rfl, rfl⟩

/-! ### All gaps -/

set_option maxRecDepth 100000 in
set_option maxHeartbeats 800000 in
theorem cgaps_any (ao : Option Addr) (len cap : Nat) (zs : List Int) (n p q : Int) (w : World) (hA : Arg w ao len cap zs) (hp : -9223372036854775808 ≤ p ∧ p ≤ 9223372036854775807) (hq : -9223372036854775808 ≤ q ∧ q ≤ 9223372036854775807) :
    Calls Tryz.prog 185 #[.slice ao len cap, .int .i64 n, .int .i64 p, .int .i64 q] w (HandedRuns w.heap.size w (if gapErr len n p q = 0 then downOut zs p q else []) (gapErr len n p q)) := by
  have c := xDown_any ao len cap zs p q w hA hp hq
  generalize downOut zs p q = l at *
  unfold gapErr
  generalize downErr len p q = E at *
  clear hA hp hq
  by_cases hE : E = 0
  · rw [hE] at c
    rw [hE, show (if (0 : Int) ≠ 0 then (0 : Int) else if n < 1 ∨ 480 < n then 1 else 0) = (if n < 1 ∨ 480 < n then 1 else 0) from if_neg (by decide)]
    clear hE
    by_cases h1 : n < 1
    · rw [if_pos (Or.inl h1), if_neg (show ¬ (1 : Int) = 0 by decide)]
      go_enter Tryz.func185, Tryz.ntmps185
      go_wp2_with (go_at_call 234; refine c.mono ?_; rintro e w1 ⟨v1, xs, rfl, hf1, hs1, hb1⟩; have HB1 := Lib.hid hb1; clear hf1 hs1 hb1)
      go_ret2
      exact ⟨_, [], rfl, FreshV.nil _ _, stands_nil, HB1.out⟩
    · by_cases h2 : 480 < n
      · rw [if_pos (Or.inr h2), if_neg (show ¬ (1 : Int) = 0 by decide)]
        go_enter Tryz.func185, Tryz.ntmps185
        go_wp2_with (go_at_call 234; refine c.mono ?_; rintro e w1 ⟨v1, xs, rfl, hf1, hs1, hb1⟩; have HB1 := Lib.hid hb1; clear hf1 hs1 hb1)
        go_ret2
        exact ⟨_, [], rfl, FreshV.nil _ _, stands_nil, HB1.out⟩
      · rw [if_neg (show ¬ (n < 1 ∨ 480 < n) by omega), if_pos rfl]
        go_enter Tryz.func185, Tryz.ntmps185
        go_wp2_with (go_at_call 234; refine c.mono ?_; rintro e w1 ⟨v1, xs, rfl, hf1, hs1, hb1⟩; have HF1 := Lib.hid hf1; have HS1 := Lib.hid hs1; have HB1 := Lib.hid hb1; obtain ⟨ao1, c1, hv1, _, _, _⟩ := hf1; rw [hv1]; rw [hv1] at HF1; clear hv1 hs1 hb1)
        go_ret2
        exact ⟨_, xs, rfl, HF1.out, HS1.out, HB1.out⟩
  · rw [if_pos hE, if_neg hE]
    have hne : (E == 0) = false := by simp; exact hE
    clear hE
    go_enter Tryz.func185, Tryz.ntmps185
    go_wp2_with (go_at_call 234; refine c.mono ?_; rintro e w1 ⟨v1, xs, rfl, hf1, hs1, hb1⟩; have HF1 := Lib.hid hf1; have HS1 := Lib.hid hs1; have HB1 := Lib.hid hb1; obtain ⟨ao1, c1, hv1, _, _, _⟩ := hf1; rw [hv1]; rw [hv1] at HF1; clear hv1 hs1 hb1)
    go_ret2
    exact ⟨_, [], rfl, FreshV.nil _ _, stands_nil, HB1.out⟩

end Go.Proofs.YtmcblhgpcgnaoaaGreatDoor



namespace Go.Proofs.YtmcblhgpcgnaoaaGreatDoor

/-- Is p taken ahead of q, or is it q? The longer first, of equal ones the first. -/
def aheadB (p q : Nat × Nat) : Bool := decide (q.2 < p.2 ∨ (q.2 = p.2 ∧ p.1 ≤ q.1))
def byLen (l : List (Nat × Nat)) : List (Nat × Nat) := l.mergeSort aheadB
/-- The first of them until there are n blocks. -/
def cutAt : List (Nat × Nat) → Nat → List (Nat × Nat)
  | [], _ => []
  | p :: r, n => if n = 0 then [] else if n ≤ p.2 then [(p.1, n)] else p :: cutAt r (n - p.2)
def firstB (p q : Nat × Nat) : Bool := decide (p.1 ≤ q.1)
def someOf (l : List (Nat × Nat)) (n : Nat) : List (Nat × Nat) := (cutAt (byLen l) n).mergeSort firstB
def someErr (E : Int) (l : List (Nat × Nat)) (n : Nat) : Int := if E = 0 then (if sumG l < n then 6 else 0) else E
def someOut (E : Int) (l : List (Nat × Nat)) (n : Nat) : List (Nat × Nat) := if E = 0 ∧ n ≤ sumG l then someOf l n else []

theorem ahead_trans (a b c : Nat × Nat) (h1 : aheadB a b = true) (h2 : aheadB b c = true) : aheadB a c = true := by
  unfold aheadB at *
  rw [decide_eq_true_iff] at *
  omega
theorem ahead_total (a b : Nat × Nat) : (aheadB a b || aheadB b a) = true := by
  unfold aheadB
  rw [Bool.or_eq_true, decide_eq_true_iff, decide_eq_true_iff]
  omega
theorem ahead_anti {a b : Nat × Nat} (h1 : aheadB a b = true) (h2 : aheadB b a = true) : a = b := by
  unfold aheadB at *
  rw [decide_eq_true_iff] at *
  exact Prod.ext (by omega) (by omega)
theorem first_trans (a b c : Nat × Nat) (h1 : firstB a b = true) (h2 : firstB b c = true) : firstB a c = true := by
  unfold firstB at *
  rw [decide_eq_true_iff] at *
  omega
theorem first_total (a b : Nat × Nat) : (firstB a b || firstB b a) = true := by
  unfold firstB
  rw [Bool.or_eq_true, decide_eq_true_iff, decide_eq_true_iff]
  omega

theorem byLen_perm (l : List (Nat × Nat)) : (byLen l).Perm l := List.mergeSort_perm l _
theorem byLen_sorted (l : List (Nat × Nat)) : (byLen l).Pairwise (fun a b => aheadB a b = true) := List.pairwise_mergeSort ahead_trans ahead_total l
theorem someOf_perm (l : List (Nat × Nat)) (n : Nat) : (someOf l n).Perm (cutAt (byLen l) n) := List.mergeSort_perm _ _
theorem someOf_sorted (l : List (Nat × Nat)) (n : Nat) : (someOf l n).Pairwise (fun a b => firstB a b = true) := List.pairwise_mergeSort first_trans first_total _

theorem sumG_perm {l m : List (Nat × Nat)} (h : l.Perm m) : sumG l = sumG m := by
  induction h with
  | nil => rfl
  | cons x _ ih => show x.2 + _ = x.2 + _; rw [ih]
  | swap x y l => show y.2 + (x.2 + sumG l) = x.2 + (y.2 + sumG l); omega
  | trans _ _ ih1 ih2 => rw [ih1, ih2]

theorem cut_sum : ∀ (l : List (Nat × Nat)) (n : Nat), n ≤ sumG l → sumG (cutAt l n) = n
  | [], n, h => by
    have : n = 0 := by have h' : n ≤ 0 := h; omega
    rw [this]; rfl
  | p :: r, n, h => by
    have h' : n ≤ p.2 + sumG r := h
    unfold cutAt
    by_cases h0 : n = 0
    · rw [if_pos h0, h0]; rfl
    · rw [if_neg h0]
      by_cases h1 : n ≤ p.2
      · rw [if_pos h1]
        show n + 0 = n
        omega
      · rw [if_neg h1]
        show p.2 + sumG (cutAt r (n - p.2)) = n
        rw [cut_sum r (n - p.2) (by omega)]
        omega

/-- Each of those that are taken is the first part of a gap. -/
theorem cut_mem : ∀ (l : List (Nat × Nat)) (n : Nat), (∀ q ∈ l, 1 ≤ q.2) → ∀ p ∈ cutAt l n, ∃ q ∈ l, p.1 = q.1 ∧ 1 ≤ p.2 ∧ p.2 ≤ q.2
  | [], _, _, p, hp => by simp [cutAt] at hp
  | x :: r, n, h1, p, hp => by
    unfold cutAt at hp
    by_cases h0 : n = 0
    · rw [if_pos h0] at hp; simp at hp
    · rw [if_neg h0] at hp
      by_cases hx : n ≤ x.2
      · rw [if_pos hx, List.mem_singleton] at hp
        subst hp
        exact ⟨x, by simp, rfl, by show 1 ≤ n; omega, hx⟩
      · rw [if_neg hx] at hp
        rcases List.mem_cons.1 hp with hp | hp
        · rw [hp]
          exact ⟨x, by simp, rfl, h1 x (by simp), Nat.le_refl _⟩
        · obtain ⟨q, hq, h⟩ := cut_mem r (n - x.2) (fun q hq => h1 q (List.mem_cons_of_mem _ hq)) p hp
          exact ⟨q, List.mem_cons_of_mem _ hq, h⟩

theorem Rise.ahead : ∀ {l : List (Nat × Nat)} {lo : Nat}, Rise lo l → ∀ p ∈ l, lo ≤ p.1
  | [], _, _, p, hp => by simp at hp
  | x :: r, lo, h, p, hp => by
    rcases List.mem_cons.1 hp with hp | hp
    · rw [hp]; exact h.1
    · have := Rise.ahead h.2 p hp
      have := h.1
      omega

theorem Rise.pairs : ∀ {l : List (Nat × Nat)} {lo : Nat}, Rise lo l → l.Pairwise (fun a b => a.1 + a.2 < b.1)
  | [], _, _ => List.Pairwise.nil
  | x :: r, lo, h => List.Pairwise.cons (fun b hb => by have := Rise.ahead h.2 b hb; omega) (Rise.pairs h.2)

end Go.Proofs.YtmcblhgpcgnaoaaGreatDoor


namespace Go.Proofs.YtmcblhgpcgnaoaaGreatDoor

theorem tight_mem_of : ∀ (l : List (Nat × Nat)) (n : Nat) (o : Option (Nat × Nat)) (p : Nat × Nat), l.foldl (tighter n) o = some p → o = some p ∨ (p ∈ l ∧ n ≤ p.2)
  | [], _, _, _, h => Or.inl h
  | x :: r, n, o, p, h => by
    rcases tight_mem_of r n (tighter n o x) p h with h1 | h1
    · cases o with
      | none =>
        have h2 : (if n ≤ x.2 then some x else none) = some p := h1
        by_cases hc : n ≤ x.2
        · rw [if_pos hc] at h2
          cases h2
          exact Or.inr ⟨by simp, hc⟩
        · rw [if_neg hc] at h2; cases h2
      | some b =>
        have h2 : (if n ≤ x.2 ∧ x.2 < b.2 then some x else some b) = some p := h1
        by_cases hc : n ≤ x.2 ∧ x.2 < b.2
        · rw [if_pos hc] at h2
          cases h2
          exact Or.inr ⟨by simp, hc.1⟩
        · rw [if_neg hc] at h2
          exact Or.inl h2
    · exact Or.inr ⟨List.mem_cons_of_mem _ h1.1, h1.2⟩

theorem tight_mem {l : List (Nat × Nat)} {n : Nat} {p : Nat × Nat} (h : tightGap l n = some p) : p ∈ l ∧ n ≤ p.2 := by
  rcases tight_mem_of l n none p h with h | h
  · cases h
  · exact h

theorem some_mem {l : List (Nat × Nat)} {n : Nat} (h1 : ∀ q ∈ l, 1 ≤ q.2) : ∀ p ∈ someOf l n, ∃ q ∈ l, p.1 = q.1 ∧ 1 ≤ p.2 ∧ p.2 ≤ q.2 := by
  intro p hp
  have hp := (someOf_perm l n).mem_iff.1 hp
  obtain ⟨q, hq, h⟩ := cut_mem (byLen l) n (fun q hq => h1 q ((byLen_perm l).mem_iff.1 hq)) p hp
  exact ⟨q, (byLen_perm l).mem_iff.1 hq, h⟩

theorem some_sum {l : List (Nat × Nat)} {n : Nat} (h : n ≤ sumG l) : sumG (someOf l n) = n := by
  rw [sumG_perm (someOf_perm l n)]
  exact cut_sum _ _ (by rw [sumG_perm (byLen_perm l)]; exact h)

theorem cut_firsts : ∀ (l : List (Nat × Nat)) (n : Nat), ((cutAt l n).map (·.1)).Sublist (l.map (·.1))
  | [], _ => List.Sublist.slnil
  | p :: r, n => by
    unfold cutAt
    by_cases h0 : n = 0
    · rw [if_pos h0]; exact List.nil_sublist _
    · rw [if_neg h0]
      by_cases h1 : n ≤ p.2
      · rw [if_pos h1]
        exact List.Sublist.cons_cons _ (List.nil_sublist _)
      · rw [if_neg h1]
        exact List.Sublist.cons_cons _ (cut_firsts r (n - p.2))

theorem some_firsts {l : List (Nat × Nat)} (h : l.Pairwise (fun a b => a.1 + a.2 < b.1)) (n : Nat) : (someOf l n).Pairwise (fun a b => a.1 < b.1) := by
  have h1 : (l.map (·.1)).Pairwise (· ≠ ·) := List.pairwise_map.2 (h.imp (fun {a b} hab => by omega))
  have h2 : ((byLen l).map (·.1)).Pairwise (· ≠ ·) := h1.perm ((byLen_perm l).symm.map _) (fun {x y} hxy => Ne.symm hxy)
  have h3 : ((cutAt (byLen l) n).map (·.1)).Pairwise (· ≠ ·) := h2.sublist (cut_firsts _ _)
  have h4 : ((someOf l n).map (·.1)).Pairwise (· ≠ ·) := h3.perm ((someOf_perm l n).symm.map _) (fun {x y} hxy => Ne.symm hxy)
  have h5 := List.pairwise_map.1 h4
  refine (h5.and (someOf_sorted l n)).imp (fun {a b} hab => ?_)
  have h6 := hab.2
  unfold firstB at h6
  rw [decide_eq_true_iff] at h6
  have := hab.1
  omega

end Go.Proofs.YtmcblhgpcgnaoaaGreatDoor


namespace Go.Proofs.YtmcblhgpcgnaoaaGreatDoor
open Go.RowKit

theorem gps_of : ∀ {xs : List Value} {l : List (Nat × Nat)}, Stands xs l → (∀ p ∈ l, p.1 + p.2 ≤ 480 ∧ 1 ≤ p.2) → ∃ gs : List Gp, gs.map encG = xs ∧ gs.map numG = l
  | [], [], _, _ => ⟨[], rfl, rfl⟩
  | [], p :: l, h, _ => by have := h.1; simp at this
  | x :: xs, [], h, _ => by have := h.1; simp at this
  | x :: xs, p :: l, h, hb => by
    obtain ⟨a, b, hx, fa, fb⟩ := h.2 0 x p rfl rfl
    obtain ⟨gs, h1, h2⟩ := gps_of (xs := xs) (l := l) ⟨by have := h.1; simpa using this, fun j y q hy hq => h.2 (j + 1) y q (by simpa using hy) (by simpa using hq)⟩ (fun q hq => hb q (List.mem_cons_of_mem _ hq))
    obtain ⟨b1, b2⟩ := hb p (List.mem_cons_self ..)
    exact ⟨mkG a b p fa fb b1 b2 :: gs, by rw [List.map_cons, h1, hx]; rfl, by rw [List.map_cons, h2]; rfl⟩

/-- The better of two: the first stands till a better one comes. -/
def stepG (cf : Gp → Gp → Int) (m x : Gp) : Gp := if cf x m < 0 then x else m

theorem cmpN_neg (a b : Nat) : cmpN a b < 0 ↔ a < b := by
  unfold cmpN
  by_cases h : a < b
  · simp [h]
  · by_cases h2 : b < a <;> simp [h, h2]

/-- Those that have so many. -/
def bigs (gs : List Gp) (n : Int) : List Gp := gs.filter fun z => !decide (((numG z).2 : Int) < n)

/-- What a choice among gaps picks is the least one, as a comparison has it, of those that are great enough. -/
def Picks (sel : List (Nat × Nat) → Nat → Option (Nat × Nat)) (cf : Gp → Gp → Int) : Prop :=
  ∀ (gs : List Gp) (n : Nat), (gs.map numG).Pairwise (fun a b => a.1 + a.2 < b.1) → sel (gs.map numG) n = match bigs gs n with | [] => none | x :: r => some (numG (r.foldl (stepG cf) x))

def stepO (cf : Gp → Gp → Int) : Option Gp → Gp → Option Gp
  | none, x => some x
  | some m, x => some (stepG cf m x)

theorem stepO_some (cf : Gp → Gp → Int) : ∀ (r : List Gp) (x : Gp), r.foldl (stepO cf) (some x) = some (r.foldl (stepG cf) x)
  | [], _ => rfl
  | y :: r, x => stepO_some cf r (stepG cf x y)

theorem tight_fold (n : Nat) : ∀ (gs : List Gp) (o : Option Gp), (gs.map numG).foldl (tighter n) (o.map numG) = ((bigs gs n).foldl (stepO byCount) o).map numG
  | [], _ => rfl
  | x :: gs, o => by
    unfold bigs
    rw [List.map_cons, List.foldl_cons, List.filter_cons]
    by_cases h : n ≤ (numG x).2
    · have h2 : (!decide (((numG x).2 : Int) < (n : Int))) = true := by simp; omega
      rw [if_pos h2, List.foldl_cons]
      have e : tighter n (o.map numG) (numG x) = (stepO byCount o x).map numG := by
        cases o with
        | none => show (if n ≤ (numG x).2 then some (numG x) else none) = _; rw [if_pos h]; rfl
        | some m =>
          show (if n ≤ (numG x).2 ∧ (numG x).2 < (numG m).2 then some (numG x) else some (numG m)) = some (numG (stepG byCount m x))
          unfold stepG byCount
          by_cases hl : (numG x).2 < (numG m).2
          · rw [if_pos ⟨h, hl⟩, if_pos ((cmpN_neg _ _).2 hl)]
          · rw [if_neg (fun hh => hl hh.2), if_neg (fun hh => hl ((cmpN_neg _ _).1 hh))]
      rw [e]
      exact tight_fold n gs (stepO byCount o x)
    · have h2 : ¬ (!decide (((numG x).2 : Int) < (n : Int))) = true := by simp; omega
      rw [if_neg h2]
      have e : tighter n (o.map numG) (numG x) = o.map numG := by
        cases o with
        | none => show (if n ≤ (numG x).2 then some (numG x) else none) = _; rw [if_neg h]; rfl
        | some m =>
          show (if n ≤ (numG x).2 ∧ (numG x).2 < (numG m).2 then some (numG x) else some (numG m)) = some (numG m)
          rw [if_neg (fun hh => h hh.1)]
      rw [e]
      exact tight_fold n gs o

theorem tight_picks : Picks tightGap byCount := by
  intro gs n _
  have h := tight_fold n gs none
  unfold tightGap
  rw [show (none : Option (Nat × Nat)) = (none : Option Gp).map numG from rfl, h]
  cases hb : bigs gs n with
  | nil => rfl
  | cons x r =>
    show ((r.foldl (stepO byCount) (some x)).map numG) = some (numG (r.foldl (stepG byCount) x))
    rw [stepO_some]
    rfl

theorem stepG_snoc (cf : Gp → Gp → Int) {r : List Gp} {t : Nat} {y : Gp} (x : Gp) (h : r[t]? = some y) : (r.take (t + 1)).foldl (stepG cf) x = stepG cf ((r.take t).foldl (stepG cf) x) y := by
  rw [List.take_add_one, h]
  show List.foldl _ _ (r.take t ++ [y]) = _
  rw [List.foldl_append]
  rfl

set_option maxRecDepth 100000 in
set_option maxHeartbeats 1600000 in
theorem Min_any (g : Nat) (cf : Gp → Gp → Int) (hc : Cmps g cf) (eg : ∀ args w, (callFunc g args).run Tryz.prog w = .ok (.enter g args) w) (b off cap m : Nat) (x0 : Gp) (r : List Gp) (w : World) (hm : (x0 :: r).length = m) (hlen : m ≤ 481)
    (hV : ∀ (j : Nat) (x : Gp), (x0 :: r)[j]? = some x → w.cell? ⟨b, off + j, none⟩ = some (encG x)) :
    Calls Tryz.prog 232 #[.slice (some ⟨b, off, none⟩) m cap, .func (.func g) #[] #[]] w fun e w' => e = .returned (encG (r.foldl (stepG cf) x0)) ∧ w = w' := by
  have c0 := hV 0 x0 rfl
  rw [Nat.add_zero] at c0
  have HV := Lib.hid hV
  have HC := Lib.hid hc
  have h1 : 1 ≤ m := by rw [← hm]; simp
  have HM := Lib.hid hm
  unfold encG at c0 ⊢
  clear hV hc hm
  go_enter Tryz.func232, Tryz.ntmps232
  go_wp2_with fail
  go_loop [5, 6] (fun mv tv => ∃ (i : Nat) (z : Gp), 1 ≤ i ∧ i ≤ m ∧ mv = .complex .f64 z.1.1.1 z.1.1.2 ∧ tv = .int .i64 (i : Int) ∧ Hid (z = (r.take (i - 1)).foldl (stepG cf) x0)) (fun _ tv => m - (intOf tv).toNat)
  case atStart => exact ⟨1, x0, Nat.le_refl _, h1, rfl, rfl, Lib.hid rfl⟩
  case round =>
    obtain ⟨i, z, i1, i2, rfl, rfl, HZ⟩ := hrel
    by_cases hlt : i < m
    · obtain ⟨x, hx⟩ : ∃ x, r[i - 1]? = some x := ⟨_, List.getElem?_eq_getElem (by have := HM.out; rw [List.length_cons] at this; omega)⟩
      have hcell := HV.out i x (by
        obtain ⟨k, rfl⟩ : ∃ k, i = k + 1 := ⟨i - 1, by omega⟩
        simpa using hx)
      have cC := HC.out x z w
      have HN : Hid (stepG cf z x = (r.take i).foldl (stepG cf) x0) := Lib.hid (by
        have h := stepG_snoc cf x0 hx
        rw [show i - 1 + 1 = i by omega, ← HZ.out] at h
        exact h.symm)
      unfold encG at hcell cC
      clear hx
      by_cases hn : cf x z < 0
      · have HE : Hid (stepG cf z x = x) := Lib.hid (by unfold stepG; rw [if_pos hn])
        have hi : (i : Int) < (m : Int) := by omega
        go_wp2_with (go_at_fn g; refine cC.mono ?_; rintro e w' ⟨rfl, rfl⟩)
        go_round
        case rel => exact ⟨i + 1, x, by omega, by omega, rfl, by go_num, Lib.hid (by rw [← HE.out, HN.out]; rfl)⟩
        case measure => simp [intOf]; omega
      · have HE : Hid (stepG cf z x = z) := Lib.hid (by unfold stepG; rw [if_neg hn])
        have hi : (i : Int) < (m : Int) := by omega
        go_wp2_with (go_at_fn g; refine cC.mono ?_; rintro e w' ⟨rfl, rfl⟩)
        go_round
        case rel => exact ⟨i + 1, z, by omega, by omega, rfl, by go_num, Lib.hid (by rw [← HE.out, HN.out]; rfl)⟩
        case measure => simp [intOf]; omega
    · have hi : ¬ (i : Int) < (m : Int) := by omega
      have HF : Hid (z = r.foldl (stepG cf) x0) := Lib.hid (by
        rw [HZ.out, List.take_of_length_le (by have := HM.out; rw [List.length_cons] at this; omega)])
      go_wp2_with fail
      go_ret
      exact ⟨by rw [← HF.out]; rfl, rfl⟩

set_option maxHeartbeats 800000 in
theorem small_any (z : Gp) (n : Int) (B : Nat) (W : World) (hc : W.cell? ⟨B, 0, none⟩ = some (.int .i64 n)) :
    FnGives Tryz.prog 230 #[.pointer (some ⟨B, 0, none⟩)] #[encG z] (.bool (decide (((numG z).2 : Int) < n))) W := by
  show Calls Tryz.prog 230 #[encG z, .pointer (some ⟨B, 0, none⟩)] W _
  have cc : ∀ w, Calls Tryz.prog 184 #[encG z] w fun e w' => e = .returned (.int .i64 ((numG z).2 : Int)) ∧ w' = w := fun w => (count_gp z w).mono (by rintro e w' ⟨rfl, rfl⟩; exact ⟨rfl, rfl⟩)
  generalize ((numG z).2 : Int) = k at cc ⊢
  unfold encG at cc ⊢
  go_enter Tryz.func230, Tryz.ntmps230
  go_wp2_with fail
  go_quiet (first | (go_at_call 184; refine Calls.quiet_of_same (cc _)))
  go_wp2_with fail
  go_ret
  exact ⟨rfl, _, rfl⟩

end Go.Proofs.YtmcblhgpcgnaoaaGreatDoor


namespace Go.Proofs.YtmcblhgpcgnaoaaGreatDoor
open Go.Sort (swp SWO PermIn SortedIn size_swp swp_left swp_right swp_other swp_permIn permIn_refl permIn_trans permIn_mono permIn_all insInner insOuter insertionSort insertionSort_holds)

theorem swo_asym {α : Type} {lt : α → α → Bool} (hS : SWO lt) {x y : α} (h : lt x y = true) : lt y x = false := by
  cases h2 : lt y x with
  | false => rfl
  | true => have := hS.trans x y x h h2; rw [hS.irrefl] at this; cases this

/-- x' is not less than x; y is less than x; y is not less than y': y' is less than x'. -/
theorem swo_between {α : Type} {lt : α → α → Bool} (hS : SWO lt) {x x' y y' : α} (hx : lt x' x = false) (h : lt y x = true) (hy : lt y y' = false) : lt y' x' = true := by
  cases h2 : lt y' x' with
  | true => rfl
  | false =>
    have h3 := hS.ntrans _ _ _ (hS.ntrans _ _ _ hy h2) hx
    rw [h] at h3
    cases h3

section
variable {α : Type} [Inhabited α]

/-! ### Two parts exchanged -/

def sgm (a b n k : Nat) : Nat := if a ≤ k ∧ k < a + n then k - a + b else if b ≤ k ∧ k < b + n then k - b + a else k

def swapR (d : Array α) (a b : Nat) : Nat → Array α
  | 0 => d
  | n + 1 => swp (swapR d a b n) (a + n) (b + n)

theorem size_swapR (d : Array α) (a b : Nat) : ∀ n, (swapR d a b n).size = d.size
  | 0 => rfl
  | n + 1 => by show (swp (swapR d a b n) (a + n) (b + n)).size = _; rw [size_swp, size_swapR d a b n]

theorem at_same {d : Array α} {i j : Nat} (h : i = j) : d[i]! = d[j]! := by rw [h]

theorem swapR_get (d : Array α) (a b : Nat) : ∀ n, a + n ≤ b → b + n ≤ d.size → ∀ k, (swapR d a b n)[k]! = d[sgm a b n k]!
  | 0, _, _, k => by
    show d[k]! = _
    exact at_same (by unfold sgm; (repeat' split) <;> omega)
  | n + 1, h1, h2, k => by
    have ih := swapR_get d a b n (by omega) (by omega)
    have hs := size_swapR d a b n
    show (swp (swapR d a b n) (a + n) (b + n))[k]! = _
    by_cases e1 : k = a + n
    · subst e1
      rw [swp_left _ _ _ (by omega) (by omega), ih]
      exact at_same (by unfold sgm; (repeat' split) <;> omega)
    · by_cases e2 : k = b + n
      · subst e2
        rw [swp_right _ _ _ (by omega), ih]
        exact at_same (by unfold sgm; (repeat' split) <;> omega)
      · rw [swp_other _ _ _ _ e1 e2, ih]
        exact at_same (by unfold sgm; (repeat' split) <;> omega)

theorem swapR_perm (d : Array α) (lo hi a b : Nat) : ∀ n, lo ≤ a → lo ≤ b → a + n ≤ hi → b + n ≤ hi → hi ≤ d.size → PermIn lo hi d (swapR d a b n)
  | 0, _, _, _, _, _ => permIn_refl _ _ _
  | n + 1, h1, h2, h3, h4, h5 =>
    permIn_trans _ _ _ _ _ (swapR_perm d lo hi a b n h1 h2 (by omega) (by omega) h5) (swp_permIn _ _ _ _ _ (by omega) (by omega) (by omega) (by omega) (by rw [size_swapR]; exact h5))

/-! ### Two neighbouring parts turned round -/

def rho (s m e k : Nat) : Nat := if k < s ∨ e ≤ k then k else if k < s + (e - m) then k + m - s else k + m - e
/-- d' is d, but that the part from s to m and that from m to e are turned round. -/
def Rot (s m e : Nat) (d d' : Array α) : Prop := d'.size = d.size ∧ ∀ k, d'[k]! = d[rho s m e k]!

theorem rot_big {dk D : Array α} {m i j : Nat} (hji : j < i) (him : i ≤ m) (hs : m + j ≤ dk.size) (h : Rot (m - i + j) m (m + j) (swapR dk (m - i) m j) D) : Rot (m - i) m (m + j) dk D := by
  refine ⟨h.1.trans (size_swapR _ _ _ _), fun k => ?_⟩
  rw [h.2 k, swapR_get _ _ _ _ (by omega) hs]
  exact at_same (by unfold rho sgm; (repeat' split) <;> omega)

theorem rot_small {dk D : Array α} {m i j : Nat} (hij : i < j) (him : i ≤ m) (hs : m + j ≤ dk.size) (h : Rot (m - i) m (m + j - i) (swapR dk (m - i) (m + j - i) i) D) : Rot (m - i) m (m + j) dk D := by
  refine ⟨h.1.trans (size_swapR _ _ _ _), fun k => ?_⟩
  rw [h.2 k, swapR_get _ _ _ _ (by omega) (by omega)]
  exact at_same (by unfold rho sgm; (repeat' split) <;> omega)

theorem rot_even {dk : Array α} {m i : Nat} (him : i ≤ m) (hs : m + i ≤ dk.size) : Rot (m - i) m (m + i) dk (swapR dk (m - i) m i) := by
  refine ⟨size_swapR _ _ _ _, fun k => ?_⟩
  rw [swapR_get _ _ _ _ (by omega) hs]
  exact at_same (by unfold rho sgm; (repeat' split) <;> omega)

theorem rot_none (d : Array α) (s e : Nat) (h : s ≤ e) : Rot s s e d d ∧ Rot s e e d d :=
  ⟨⟨rfl, fun k => at_same (by unfold rho; (repeat' split) <;> omega)⟩, ⟨rfl, fun k => at_same (by unfold rho; (repeat' split) <;> omega)⟩⟩

/-- The part of one is moved one place up. -/
theorem rot_up {d dk : Array α} {a k : Nat} (hak : a ≤ k) (hs : k + 1 < d.size) (h : Rot a (a + 1) (k + 1) d dk) : Rot a (a + 1) (k + 2) d (swp dk k (k + 1)) := by
  have hz := h.1
  refine ⟨by rw [size_swp]; exact h.1, fun j => ?_⟩
  by_cases e1 : j = k
  · subst e1
    rw [swp_left _ _ _ (by omega) (by omega), h.2]
    exact at_same (by unfold rho; (repeat' split) <;> omega)
  · by_cases e2 : j = k + 1
    · subst e2
      rw [swp_right _ _ _ (by omega), h.2]
      exact at_same (by unfold rho; (repeat' split) <;> omega)
    · rw [swp_other _ _ _ _ e1 e2, h.2]
      exact at_same (by unfold rho; (repeat' split) <;> omega)

/-- The part of one is moved one place down. -/
theorem rot_down {d dk : Array α} {m k : Nat} (hkm : k + 1 ≤ m) (hs : m < d.size) (h : Rot (k + 1) m (m + 1) d dk) : Rot k m (m + 1) d (swp dk (k + 1) k) := by
  have hz := h.1
  refine ⟨by rw [size_swp]; exact h.1, fun j => ?_⟩
  by_cases e1 : j = k + 1
  · subst e1
    rw [swp_left _ _ _ (by omega) (by omega), h.2]
    exact at_same (by unfold rho; (repeat' split) <;> omega)
  · by_cases e2 : j = k
    · subst e2
      rw [swp_right _ _ _ (by omega), h.2]
      exact at_same (by unfold rho; (repeat' split) <;> omega)
    · rw [swp_other _ _ _ _ e1 e2, h.2]
      exact at_same (by unfold rho; (repeat' split) <;> omega)

/-! ### Equals keep their order -/

variable {lt : α → α → Bool} {R : α → α → Prop}

/-- Of two that are equal, the first one stands so to the second one. -/
def Stab (lt : α → α → Bool) (R : α → α → Prop) (d : Array α) : Prop := ∀ i j, i < j → j < d.size → lt d[j]! d[i]! = false → lt d[i]! d[j]! = false → R d[i]! d[j]!

theorem stab_rot {d d' : Array α} {s m e : Nat} (hsm : s ≤ m) (hme : m ≤ e) (he : e ≤ d.size) (h : Rot s m e d d') (hl : ∀ i j, s ≤ i → i < m → m ≤ j → j < e → lt d[j]! d[i]! = true) (hst : Stab lt R d) : Stab lt R d' := by
  intro i j hij hj h1 h2
  rw [h.1] at hj
  rw [h.2 i, h.2 j] at h1 h2 ⊢
  have hc : rho s m e i < rho s m e j ∨ (m ≤ rho s m e i ∧ rho s m e i < e ∧ s ≤ rho s m e j ∧ rho s m e j < m) := by unfold rho; (repeat' split) <;> omega
  have hq : rho s m e j < d.size := by unfold rho; (repeat' split) <;> omega
  rcases hc with hc | ⟨a1, a2, a3, a4⟩
  · exact hst _ _ hc hq h1 h2
  · rw [hl _ _ a3 a4 a1 a2] at h2
    cases h2

theorem swp_rot {d : Array α} {j : Nat} (hj : j + 1 < d.size) : Rot j (j + 1) (j + 2) d (swp d (j + 1) j) :=
  rot_down (m := j + 1) (k := j) (Nat.le_refl _) hj (rot_none d (j + 1) (j + 2) (by omega)).1

theorem ins_inner_stab (a : Nat) : ∀ (j : Nat) (d : Array α), j < d.size → Stab lt R d → Stab lt R (insInner lt a j d)
  | 0, d, _, h => by unfold insInner; exact h
  | j + 1, d, hj, h => by
    unfold insInner
    split
    · rename_i hc
      simp only [Bool.and_eq_true] at hc
      refine ins_inner_stab a j _ (by rw [size_swp]; omega) (stab_rot (by omega) (by omega) (by omega) (swp_rot hj) ?_ h)
      intro i k h1 h2 h3 h4
      rw [show i = j by omega, show k = j + 1 by omega]
      exact hc.2
    · exact h

theorem ins_inner_size (a : Nat) : ∀ (j : Nat) (d : Array α), (insInner lt a j d).size = d.size
  | 0, d => by unfold insInner; rfl
  | j + 1, d => by
    unfold insInner
    split
    · rw [ins_inner_size a j, size_swp]
    · rfl

theorem ins_outer_stab (a b : Nat) : ∀ (n i : Nat) (d : Array α), b - i = n → b ≤ d.size → Stab lt R d → Stab lt R (insOuter lt a b i d)
  | 0, i, d, hn, _, h => by
    rw [insOuter, if_neg (by omega)]
    exact h
  | n + 1, i, d, hn, hb, h => by
    rw [insOuter, if_pos (by omega)]
    exact ins_outer_stab a b n (i + 1) _ (by omega) (by rw [ins_inner_size]; exact hb) (ins_inner_stab a i d (by omega) h)

theorem insertion_stab {d : Array α} {a b : Nat} (hb : b ≤ d.size) (h : Stab lt R d) : Stab lt R (insertionSort lt d a b) := ins_outer_stab a b _ _ d rfl hb h

/-! ### Merging -/

theorem sorted_le (hS : SWO lt) {a b i j : Nat} {d : Array α} (h : SortedIn lt a b d) (h1 : a ≤ i) (h2 : i ≤ j) (h3 : j < b) : lt d[j]! d[i]! = false := by
  by_cases e : i = j
  · rw [e]; exact hS.irrefl _
  · exact h i j h1 (by omega) h3

/-- One element put into the sorted ones behind it. -/
theorem ins_left (hS : SWO lt) {d d' : Array α} {a b i : Nat} (hai : a + 1 ≤ i) (hib : i ≤ b) (hb : b ≤ d.size) (hs : SortedIn lt (a + 1) b d) (hst : Stab lt R d) (h1 : i = a + 1 ∨ lt d[i - 1]! d[a]! = true) (h2 : i = b ∨ lt d[i]! d[a]! = false) (hr : Rot a (a + 1) i d d') :
    SortedIn lt a b d' ∧ Stab lt R d' := by
  have f1 : ∀ k, a + 1 ≤ k → k < i → lt d[k]! d[a]! = true := fun k k1 k2 => by
    rcases h1 with h1 | h1
    · omega
    · exact swo_between hS (hS.irrefl _) h1 (sorted_le hS hs k1 (by omega) (by omega))
  have f2 : ∀ k, i ≤ k → k < b → lt d[k]! d[a]! = false := fun k k1 k2 => by
    rcases h2 with h2 | h2
    · omega
    · exact hS.ntrans _ _ _ (sorted_le hS hs hai k1 k2) h2
  refine ⟨fun p q hp hpq hq => ?_, stab_rot (by omega) hai (by omega) hr (fun p q p1 p2 q1 q2 => by rw [show p = a by omega]; exact f1 q q1 q2) hst⟩
  rw [hr.2 p, hr.2 q]
  have hc : (rho a (a + 1) i p = p + 1 ∧ p + 1 < i) ∨ (rho a (a + 1) i p = a ∧ p + 1 = i) ∨ (rho a (a + 1) i p = p ∧ i ≤ p) := by unfold rho; (repeat' split) <;> omega
  have hd : (rho a (a + 1) i q = q + 1 ∧ q + 1 < i) ∨ (rho a (a + 1) i q = a ∧ q + 1 = i) ∨ (rho a (a + 1) i q = q ∧ i ≤ q) := by unfold rho; (repeat' split) <;> omega
  rcases hc with ⟨e1, c1⟩ | ⟨e1, c1⟩ | ⟨e1, c1⟩ <;> rcases hd with ⟨e2, c2⟩ | ⟨e2, c2⟩ | ⟨e2, c2⟩ <;> rw [e1, e2]
  · exact hs _ _ (by omega) (by omega) (by omega)
  · exact swo_asym hS (f1 _ (by omega) (by omega))
  · exact hs _ _ (by omega) (by omega) (by omega)
  · omega
  · omega
  · exact f2 _ (by omega) (by omega)
  · omega
  · omega
  · exact hs _ _ (by omega) (by omega) (by omega)

/-- One element put into the sorted ones ahead of it. -/
theorem ins_right (hS : SWO lt) {d d' : Array α} {a m i : Nat} (hai : a ≤ i) (him : i ≤ m) (hb : m < d.size) (hs : SortedIn lt a m d) (hst : Stab lt R d) (h1 : i = a ∨ lt d[m]! d[i - 1]! = false) (h2 : i = m ∨ lt d[m]! d[i]! = true) (hr : Rot i m (m + 1) d d') :
    SortedIn lt a (m + 1) d' ∧ Stab lt R d' := by
  have f1 : ∀ k, a ≤ k → k < i → lt d[m]! d[k]! = false := fun k k1 k2 => by
    rcases h1 with h1 | h1
    · omega
    · exact hS.ntrans _ _ _ h1 (sorted_le hS hs k1 (by omega) (by omega))
  have f2 : ∀ k, i ≤ k → k < m → lt d[m]! d[k]! = true := fun k k1 k2 => by
    rcases h2 with h2 | h2
    · omega
    · exact swo_between hS (sorted_le hS hs hai k1 k2) h2 (hS.irrefl _)
  refine ⟨fun p q hp hpq hq => ?_, stab_rot him (by omega) (by omega) hr (fun p q p1 p2 q1 q2 => by rw [show q = m by omega]; exact f2 p p1 p2) hst⟩
  rw [hr.2 p, hr.2 q]
  have hc : (rho i m (m + 1) p = p ∧ p < i) ∨ (rho i m (m + 1) p = m ∧ p = i) ∨ (rho i m (m + 1) p = p - 1 ∧ i < p) := by unfold rho; (repeat' split) <;> omega
  have hd : (rho i m (m + 1) q = q ∧ q < i) ∨ (rho i m (m + 1) q = m ∧ q = i) ∨ (rho i m (m + 1) q = q - 1 ∧ i < q) := by unfold rho; (repeat' split) <;> omega
  rcases hc with ⟨e1, c1⟩ | ⟨e1, c1⟩ | ⟨e1, c1⟩ <;> rcases hd with ⟨e2, c2⟩ | ⟨e2, c2⟩ | ⟨e2, c2⟩ <;> rw [e1, e2]
  · exact hs _ _ (by omega) (by omega) (by omega)
  · exact f1 _ (by omega) (by omega)
  · exact hs _ _ (by omega) (by omega) (by omega)
  · omega
  · omega
  · exact swo_asym hS (f2 _ (by omega) (by omega))
  · omega
  · omega
  · exact hs _ _ (by omega) (by omega) (by omega)

/-- What is so when the two middle parts are turned round: the first half and the second one are sorted in two parts each, and nothing of the second is less than anything of the first. -/
def Halved (lt : α → α → Bool) (R : α → α → Prop) (a s mid e b : Nat) (d : Array α) : Prop :=
  Stab lt R d ∧ SortedIn lt a s d ∧ SortedIn lt s mid d ∧ SortedIn lt mid e d ∧ SortedIn lt e b d ∧ ∀ i j, a ≤ i → i < mid → mid ≤ j → j < b → lt d[j]! d[i]! = false

theorem halved (hS : SWO lt) {d d' : Array α} {a m b s mid e : Nat} (hb : b ≤ d.size) (he : s + e = mid + m) (h1 : a ≤ s) (h2 : s ≤ m) (h3 : s ≤ mid) (h4 : m ≤ e) (h5 : mid ≤ e) (h6 : e ≤ b) (s1 : SortedIn lt a m d) (s2 : SortedIn lt m b d) (hst : Stab lt R d)
    (F1 : a < s → e < b → lt d[e]! d[s - 1]! = false) (F2 : s < m → m < e → lt d[e - 1]! d[s]! = true) (hr : Rot s m e d d') : Halved lt R a s mid e b d' := by
  have fl : ∀ i j, s ≤ i → i < m → m ≤ j → j < e → lt d[j]! d[i]! = true := fun i j i1 i2 j1 j2 =>
    swo_between hS (sorted_le hS s1 h1 i1 i2) (F2 (by omega) (by omega)) (sorted_le hS s2 j1 (by omega) (by omega))
  have fo : ∀ i j, a ≤ i → i < s → e ≤ j → j < b → lt d[j]! d[i]! = false := fun i j i1 i2 j1 j2 =>
    hS.ntrans _ _ _ (hS.ntrans _ _ _ (sorted_le hS s2 h4 j1 j2) (F1 (by omega) (by omega))) (sorted_le hS s1 i1 (by omega) (by omega))
  have g : ∀ k, (k < s → rho s m e k = k) ∧ (s ≤ k → k < mid → rho s m e k = k + m - s) ∧ (mid ≤ k → k < e → rho s m e k = k + m - e) ∧ (e ≤ k → rho s m e k = k) := fun k => by
    refine ⟨fun _ => ?_, fun _ _ => ?_, fun _ _ => ?_, fun _ => ?_⟩ <;> unfold rho <;> (repeat' split) <;> omega
  refine ⟨stab_rot h2 h4 (by omega) hr fl hst, fun i j i1 ij j1 => ?_, fun i j i1 ij j1 => ?_, fun i j i1 ij j1 => ?_, fun i j i1 ij j1 => ?_, fun i j i1 i2 j1 j2 => ?_⟩
  · rw [hr.2 i, hr.2 j, (g i).1 (by omega), (g j).1 (by omega)]
    exact s1 _ _ (by omega) (by omega) (by omega)
  · rw [hr.2 i, hr.2 j, (g i).2.1 (by omega) (by omega), (g j).2.1 (by omega) (by omega)]
    exact s2 _ _ (by omega) (by omega) (by omega)
  · rw [hr.2 i, hr.2 j, (g i).2.2.1 (by omega) (by omega), (g j).2.2.1 (by omega) (by omega)]
    exact s1 _ _ (by omega) (by omega) (by omega)
  · rw [hr.2 i, hr.2 j, (g i).2.2.2 (by omega), (g j).2.2.2 (by omega)]
    exact s2 _ _ (by omega) (by omega) (by omega)
  · rw [hr.2 i, hr.2 j]
    by_cases ci : i < s
    · rw [(g i).1 ci]
      by_cases cj : j < e
      · rw [(g j).2.2.1 j1 cj]
        exact sorted_le hS s1 i1 (by omega) (by omega)
      · rw [(g j).2.2.2 (by omega)]
        exact fo _ _ i1 ci (by omega) j2
    · rw [(g i).2.1 (by omega) i2]
      by_cases cj : j < e
      · rw [(g j).2.2.1 j1 cj]
        exact swo_asym hS (fl _ _ (by omega) (by omega) (by omega) (by omega))
      · rw [(g j).2.2.2 (by omega)]
        exact sorted_le hS s2 (by omega) (by omega) j2

theorem sorted_same {a b : Nat} {d d' : Array α} (h : SortedIn lt a b d) (he : ∀ k, a ≤ k → k < b → d'[k]! = d[k]!) : SortedIn lt a b d' := fun i j h1 h2 h3 => by
  rw [he i h1 (by omega), he j (by omega) h3]
  exact h i j h1 h2 h3

/-- Two halves, each sorted by itself. -/
theorem glue_halves {d1 d2 d3 : Array α} {a mid b : Nat} (ham : a ≤ mid) (hmb : mid ≤ b) (hb : b ≤ d1.size) (hc : ∀ i j, a ≤ i → i < mid → mid ≤ j → j < b → lt d1[j]! d1[i]! = false) (p2 : PermIn a mid d1 d2) (s2 : SortedIn lt a mid d2) (p3 : PermIn mid b d2 d3) (s3 : SortedIn lt mid b d3) :
    PermIn a b d1 d3 ∧ SortedIn lt a b d3 := by
  have z2 : d2.size = d1.size := p2.1
  refine ⟨permIn_trans _ _ _ _ _ (permIn_mono _ _ _ _ _ _ (Nat.le_refl _) hmb hb p2) (permIn_mono _ _ _ _ _ _ ham (Nat.le_refl _) (by omega) p3), fun i j h1 h2 h3 => ?_⟩
  by_cases cj : j < mid
  · rw [p3.2.1 i (Or.inl (by omega)), p3.2.1 j (Or.inl cj)]
    exact s2 i j h1 h2 cj
  · by_cases ci : i < mid
    · have c2 : ∀ i j, a ≤ i → i < mid → mid ≤ j → j < b → lt d2[j]! d2[i]! = false := fun i j i1 i2 j1 j2 => by
        rw [p2.2.1 j (Or.inr j1)]
        exact permIn_all _ _ _ _ (fun x => lt d1[j]! x = false) (by omega) p2 (fun k k1 k2 => hc k j k1 k2 j1 j2) i i1 i2
      rw [p3.2.1 i (Or.inl ci)]
      exact permIn_all _ _ _ _ (fun x => lt x d2[i]! = false) (by omega) p3 (fun k k1 k2 => c2 i k h1 ci k1 k2) j (by omega) h3
    · exact s3 i j (by omega) h2 h3

/-! ### Sorting in blocks -/

/-- Each block of bs that begins from lo on and below hi is sorted, as far as it lies below n. -/
def Blocks (lt : α → α → Bool) (bs lo hi n : Nat) (d : Array α) : Prop := ∀ k, lo ≤ k * bs → k * bs < hi → SortedIn lt (k * bs) (min (k * bs + bs) n) d

theorem blocks_none (bs n : Nat) (d : Array α) : Blocks lt bs 0 0 n d := fun k _ h => by omega

/-- One more block. -/
theorem blocks_more {bs q n : Nat} {d d' : Array α} (h : Blocks lt bs 0 (q * bs) n d) (hp : PermIn (q * bs) (q * bs + bs) d d') (hs : SortedIn lt (q * bs) (q * bs + bs) d') : Blocks lt bs 0 ((q + 1) * bs) n d' := by
  intro k _ hk
  rcases Nat.lt_trichotomy k q with h1 | h1 | h1
  · have h2 : (k + 1) * bs ≤ q * bs := Nat.mul_le_mul_right bs h1
    rw [Nat.add_mul, Nat.one_mul] at h2
    have hb : 0 < bs := by
      rcases Nat.eq_zero_or_pos bs with h | h
      · subst h; simp at hk
      · exact h
    refine sorted_same (h k (Nat.zero_le _) (by omega)) (fun i i1 i2 => hp.2.1 i (Or.inl (by omega)))
  · subst h1
    exact fun i j i1 ij j1 => hs i j i1 ij (by omega)
  · have h2 : (q + 1) * bs ≤ k * bs := Nat.mul_le_mul_right bs h1
    omega

/-- The last block. -/
theorem blocks_last {bs q n : Nat} {d d' : Array α} (h : Blocks lt bs 0 (q * bs) n d) (hn : n ≤ q * bs + bs) (hp : PermIn (q * bs) n d d') (hs : SortedIn lt (q * bs) n d') : Blocks lt bs 0 n n d' := by
  intro k _ hk
  rcases Nat.lt_trichotomy k q with h1 | h1 | h1
  · have h2 : (k + 1) * bs ≤ q * bs := Nat.mul_le_mul_right bs h1
    rw [Nat.add_mul, Nat.one_mul] at h2
    by_cases hb : bs = 0
    · subst hb
      intro i j i1 ij j1
      simp at j1
    · refine sorted_same (h k (Nat.zero_le _) (by omega)) (fun i i1 i2 => hp.2.1 i (Or.inl (by omega)))
  · subst h1
    exact fun i j i1 ij j1 => hs i j i1 ij (by omega)
  · have h2 : (q + 1) * bs ≤ k * bs := Nat.mul_le_mul_right bs h1
    rw [Nat.add_mul, Nat.one_mul] at h2
    omega

/-- What lies ahead is left as it was. -/
theorem blocks_ahead {bs lo lo' hi n b : Nat} {d d' : Array α} (h : Blocks lt bs lo hi n d) (hl : lo ≤ lo') (hb : b ≤ lo') (he : ∀ i, b ≤ i → d'[i]! = d[i]!) : Blocks lt bs lo' hi n d' := fun k h1 h2 =>
  sorted_same (h k (by omega) h2) (fun i i1 _ => he i (by omega))

theorem two_blocks {q bs : Nat} : (2 * q) * bs = q * (2 * bs) ∧ (2 * q + 1) * bs = q * (2 * bs) + bs := by
  have e : (2 * q) * bs = q * (2 * bs) := by rw [Nat.mul_comm 2 q, Nat.mul_assoc]
  exact ⟨e, by rw [Nat.add_mul, Nat.one_mul, e]⟩

/-- The two blocks that are merged next. -/
theorem blocks_two {bs q n : Nat} {d : Array α} (h : Blocks lt bs (q * (2 * bs)) n n d) (hb : q * (2 * bs) + 2 * bs ≤ n) (h0 : 0 < bs) : SortedIn lt (q * (2 * bs)) (q * (2 * bs) + bs) d ∧ SortedIn lt (q * (2 * bs) + bs) (q * (2 * bs) + 2 * bs) d := by
  obtain ⟨e1, e2⟩ := two_blocks (q := q) (bs := bs)
  have h1 := h (2 * q) (by omega) (by omega)
  have h2 := h (2 * q + 1) (by omega) (by omega)
  rw [e1] at h1
  rw [e2] at h2
  exact ⟨fun i j i1 ij j1 => h1 i j i1 ij (by omega), fun i j i1 ij j1 => h2 i j i1 ij (by omega)⟩

/-- The two at the end, of which the second one is short. -/
theorem blocks_two_last {bs q n : Nat} {d : Array α} (h : Blocks lt bs (q * (2 * bs)) n n d) (hb : q * (2 * bs) + bs < n) (hn : n ≤ q * (2 * bs) + 2 * bs) (h0 : 0 < bs) : SortedIn lt (q * (2 * bs)) (q * (2 * bs) + bs) d ∧ SortedIn lt (q * (2 * bs) + bs) n d := by
  obtain ⟨e1, e2⟩ := two_blocks (q := q) (bs := bs)
  have h1 := h (2 * q) (by omega) (by omega)
  have h2 := h (2 * q + 1) (by omega) (by omega)
  rw [e1] at h1
  rw [e2] at h2
  exact ⟨fun i j i1 ij j1 => h1 i j i1 ij (by omega), fun i j i1 ij j1 => h2 i j i1 ij (by omega)⟩

/-- One block at the end. -/
theorem blocks_one_last {bs q n : Nat} {d : Array α} (h : Blocks lt bs (q * (2 * bs)) n n d) (hn : n ≤ q * (2 * bs) + bs) : SortedIn lt (q * (2 * bs)) n d := by
  obtain ⟨e1, _⟩ := two_blocks (q := q) (bs := bs)
  by_cases hq : q * (2 * bs) < n
  · have h1 := h (2 * q) (by omega) (by omega)
    rw [e1] at h1
    exact fun i j i1 ij j1 => h1 i j i1 ij (by omega)
  · exact fun i j i1 ij j1 => by omega

/-- One block as long as all. -/
theorem blocks_all {bs n : Nat} {d : Array α} (h : Blocks lt bs 0 n n d) (hn : n ≤ bs) : SortedIn lt 0 n d := by
  by_cases h0 : 0 < n
  · have h1 := h 0 (Nat.zero_le _) (by omega)
    rw [Nat.zero_mul] at h1
    exact fun i j i1 ij j1 => h1 i j i1 ij (by omega)
  · exact fun i j i1 ij j1 => by omega

end

end Go.Proofs.YtmcblhgpcgnaoaaGreatDoor


namespace Go.Proofs.YtmcblhgpcgnaoaaGreatDoor
open Go.RowKit
open Go.Sort (swp SWO PermIn SortedIn size_swp insertionSort)

set_option maxRecDepth 100000 in
set_option maxHeartbeats 4000000 in
theorem swapR_walk (g blk off cap N a b n : Nat) (d0 d : Array Gp) (w0 w : World) (R : Row1 encG w0 blk off d0) (hs0 : d0.size = N) (hs : d.size = N) (S : SW encG w0 blk off d w) (hab : a + n ≤ b) (hb : b + n ≤ N) (hN : N ≤ 481) :
    Calls Tryz.prog 308 #[.slice (some ⟨blk, off, none⟩) N cap, .int .i64 a, .int .i64 b, .int .i64 n, .func (.func g) #[] #[]] w fun e w' => e = .returned (.tuple #[]) ∧ SW encG w0 blk off (swapR d a b n) w' := by
  have hcl0 := R.hO.cells
  simp only [Value.cells] at hcl0
  have hst := R.hO.store Tryz.prog
  have S0 : Hid (SW encG w0 blk off d w) := S
  have HS := Lib.hid hs
  clear S hs
  go_enter Tryz.func308, Tryz.ntmps308
  go_wp2_with fail
  go_loopw [10] (fun iv wr => ∃ i : Nat, iv = .int .i64 i ∧ i ≤ n ∧ Hid (SW encG w0 blk off (swapR d a b i) wr)) (fun iv _ => n - (intOf iv).toNat)
  case atStart => exact ⟨0, rfl, Nat.zero_le _, S0⟩
  case round =>
    clear S0
    obtain ⟨i, rfl, hin, S1⟩ := hrel
    have hsz : (swapR d a b i).size = N := by rw [size_swapR, HS.out]
    by_cases hlt : i < n
    · have hltz : (i : Int) < (n : Int) := by omega
      go_wp2_with fail
      obtain ⟨p, hp⟩ : ∃ q, q = a + i := ⟨_, rfl⟩
      obtain ⟨q, hq⟩ : ∃ q, q = b + i := ⟨_, rfl⟩
      have ea : ((a : Int) + (i : Int)).toNat = p := by omega
      have pa : (0 : Int) ≤ (a : Int) + (i : Int) := by omega
      have ba : (a : Int) + (i : Int) < (N : Int) := by omega
      have ra : IntKind.i64.wrap ((a : Int) + (i : Int)) = (a : Int) + (i : Int) := by rw [IntKind.wrap_i64]; omega
      have ec : ((b : Int) + (i : Int)).toNat = q := by omega
      have pc : (0 : Int) ≤ (b : Int) + (i : Int) := by omega
      have bc : (b : Int) + (i : Int) < (N : Int) := by omega
      have rc : IntKind.i64.wrap ((b : Int) + (i : Int)) = (b : Int) + (i : Int) := by rw [IntKind.wrap_i64]; omega
      obtain ⟨x, hx⟩ : ∃ x, x = (swapR d a b i)[p]! := ⟨_, rfl⟩
      obtain ⟨y, hy⟩ : ∃ x, x = (swapR d a b i)[q]! := ⟨_, rfl⟩
      have S2 : Hid (SW encG w0 blk off (swapR d a b (i + 1)) ((wr.setCell ⟨blk, off + p, none⟩ (encG y)).setCell ⟨blk, off + q, none⟩ (encG x)).drew) := by
        rw [hx, hy, hp, hq]
        exact S1.out.swapped R (a + i) (b + i) (by omega) (by omega)
      have c1 := S1.out.c1 R (by omega) p (by omega)
      have c2 := S1.out.c1 R (by omega) q (by omega)
      have f1 := S1.out.f1 R (by omega) p (by omega)
      have f2 := S1.out.f1 R (by omega) q (by omega)
      obtain ⟨u, c3⟩ := S1.out.c2 R (by omega) p q (by omega) (by omega) (encG y)
      rw [← hx] at c1
      rw [← hy] at c2
      clear S1 hx hy hp hq
      go_big_region
      clear c1 c2 c3 f1 f2
      generalize ((wr.setCell ⟨blk, off + p, none⟩ (encG y)).setCell ⟨blk, off + q, none⟩ (encG x)).drew = w2 at S2 ⊢
      clear ea ec
      go_wp2_with fail
      go_roundw
      case rel => exact ⟨i + 1, by go_num, by omega, S2⟩
      case measure => simp [intOf]; omega
    · have hin' : i = n := by omega
      subst hin'
      go_wp2_with fail
      go_end0
      exact ⟨rfl, S1.out⟩

/-- The rows that a rotation, still to be finished, leaves. -/
def Turning (a m b N i j : Nat) (d dk : Array Gp) : Prop := dk.size = N ∧ PermIn a b d dk ∧ ∀ D, Rot (m - i) m (m + j) dk D → Rot a m b d D

set_option maxRecDepth 100000 in
set_option maxHeartbeats 4000000 in
theorem rotate_walk (g blk off cap N a m b : Nat) (d0 d : Array Gp) (w0 w : World) (R : Row1 encG w0 blk off d0) (hs0 : d0.size = N) (hs : d.size = N) (S : SW encG w0 blk off d w) (ham : a < m) (hmb : m < b) (hb : b ≤ N) (hN : N ≤ 481) :
    Calls Tryz.prog 292 #[.slice (some ⟨blk, off, none⟩) N cap, .int .i64 a, .int .i64 m, .int .i64 b, .func (.func g) #[] #[]] w fun e w' => e = .returned (.tuple #[]) ∧ ∃ D, Rot a m b d D ∧ PermIn a b d D ∧ SW encG w0 blk off D w' := by
  have S0 : Hid (SW encG w0 blk off d w) := S
  have HC : Hid (∀ (x y n : Nat) (dk : Array Gp) (wr : World), dk.size = N → SW encG w0 blk off dk wr → x + n ≤ y → y + n ≤ N → Calls Tryz.prog 308 #[.slice (some ⟨blk, off, none⟩) N cap, .int .i64 x, .int .i64 y, .int .i64 n, .func (.func g) #[] #[]] wr fun e w' => e = .returned (.tuple #[]) ∧ SW encG w0 blk off (swapR dk x y n) w') :=
    Lib.hid (fun x y n dk wr h1 h2 h3 h4 => swapR_walk g blk off cap N x y n d0 dk w0 wr R hs0 h1 h2 h3 h4 hN)
  have e1 : (m : Int) - (a : Int) = ((m - a : Nat) : Int) := by omega
  have e2 : (b : Int) - (m : Int) = ((b - m : Nat) : Int) := by omega
  have HT0 : Hid (Turning a m b N (m - a) (b - m) d d) := Lib.hid ⟨hs, Sort.permIn_refl _ _ _, fun D h => by rwa [show m - (m - a) = a by omega, show m + (b - m) = b by omega] at h⟩
  have HE1 := Lib.hid e1
  have HE2 := Lib.hid e2
  clear S R hs0 hs e1 e2
  go_enter Tryz.func292, Tryz.ntmps292
  go_wp2_with fail
  go_loopw [10, 11] (fun iv jv wr => ∃ (i j : Nat) (dk : Array Gp), iv = .int .i64 i ∧ jv = .int .i64 j ∧ 0 < i ∧ 0 < j ∧ a + i ≤ m ∧ m + j ≤ b ∧ Hid (Turning a m b N i j d dk) ∧ Hid (SW encG w0 blk off dk wr)) (fun iv jv _ => (intOf iv).toNat + (intOf jv).toNat)
  case atStart => exact ⟨m - a, b - m, d, by rw [HE1.out], by rw [HE2.out], by omega, by omega, by omega, by omega, HT0, S0⟩
  case round =>
    clear S0 HT0
    obtain ⟨i, j, dk, rfl, rfl, i0, j0, i1, j1, HT, S1⟩ := hrel
    have hz := HT.out.1
    have e3 : ((m - i : Nat) : Int) = (m : Int) - (i : Int) := by omega
    by_cases heq : i = j
    · subst heq
      have c := HC.out (m - i) m i dk wr hz S1.out (by omega) (by omega)
      rw [e3] at c
      have HF : Hid (Rot a m b d (swapR dk (m - i) m i) ∧ PermIn a b d (swapR dk (m - i) m i)) := Lib.hid ⟨HT.out.2.2 _ (rot_even (by omega) (by omega)), Sort.permIn_trans _ _ _ _ _ HT.out.2.1 (swapR_perm dk a b (m - i) m i (by omega) (by omega) (by omega) (by omega) (by omega))⟩
      clear e3 hz HT
      go_wp2_with fail
      refine c.mono ?_
      rintro e w2 ⟨rfl, hS2⟩
      have S2 := Lib.hid hS2
      clear hS2 c
      go_wp2_with fail
      go_end0
      exact ⟨rfl, _, HF.out.1, HF.out.2, S2.out⟩
    · have hne : ((i : Int) != (j : Int)) = true := by simp; omega
      by_cases hlt : j < i
      · have c := HC.out (m - i) m j dk wr hz S1.out (by omega) (by omega)
        rw [e3] at c
        have HT2 : Hid (Turning a m b N (i - j) j d (swapR dk (m - i) m j)) := Lib.hid ⟨by rw [size_swapR]; exact hz, Sort.permIn_trans _ _ _ _ _ HT.out.2.1 (swapR_perm dk a b (m - i) m j (by omega) (by omega) (by omega) (by omega) (by omega)), fun D h => HT.out.2.2 D (rot_big hlt (by omega) (by omega) (by rwa [show m - i + j = m - (i - j) by omega]))⟩
        have hltz : (j : Int) < (i : Int) := by omega
        clear e3 hz HT heq
        go_wp2_with fail
        refine c.mono ?_
        rintro e w2 ⟨rfl, hS2⟩
        have S2 := Lib.hid hS2
        clear hS2 c
        go_wp2_with fail
        go_roundw
        case rel => exact ⟨i - j, j, _, by go_num, rfl, by omega, j0, by omega, j1, HT2, S2⟩
        case measure => simp [intOf]; omega
      · have e4 : ((m + j - i : Nat) : Int) = (m : Int) + (j : Int) - (i : Int) := by omega
        have c := HC.out (m - i) (m + j - i) i dk wr hz S1.out (by omega) (by omega)
        rw [e3, e4] at c
        have HT2 : Hid (Turning a m b N i (j - i) d (swapR dk (m - i) (m + j - i) i)) := Lib.hid ⟨by rw [size_swapR]; exact hz, Sort.permIn_trans _ _ _ _ _ HT.out.2.1 (swapR_perm dk a b (m - i) (m + j - i) i (by omega) (by omega) (by omega) (by omega) (by omega)), fun D h => HT.out.2.2 D (rot_small (by omega) (by omega) (by omega) (by rw [show m + (j - i) = m + j - i by omega] at h; exact h))⟩
        have hltz : ¬ (j : Int) < (i : Int) := by omega
        clear e3 e4 hz HT
        go_wp2_with fail
        refine c.mono ?_
        rintro e w2 ⟨rfl, hS2⟩
        have S2 := Lib.hid hS2
        clear hS2 c
        go_wp2_with fail
        go_roundw
        case rel => exact ⟨i, j - i, _, rfl, by go_num, i0, by omega, i1, by omega, HT2, S2⟩
        case measure => simp [intOf]; omega

end Go.Proofs.YtmcblhgpcgnaoaaGreatDoor

