/-
  Proved here: what the landed flags' Mark answers of any sound runs, and the landed image's mark and free. The conditions stand at each theorem. Proved here: what the document's own reckoning of sound runs (drydockref02: Parts; drydockref05: size, begin) answers. The conditions stand at each theorem. Proved here: plain facts on which of the gaps is chosen. No conditions but those that each theorem names. Nothing of the program is read here. Proved here: what the document's own reckoning of the gaps that are chosen (drydockref05: First, Tight) answers. The conditions stand at each theorem. Proved here: what the landed code of package choose answers of one gap (count) and of two (its comparisons), and what run.Cut answers of a run. The conditions stand at each theorem. Proved here: plain facts on the gaps that are taken together, the longest first. No conditions but those that each theorem names. Nothing of the program is read here. Proved here: plain facts on what is chosen: the same errors, parts of gaps, each block once, one run where one will do. No conditions but those that each theorem names. Nothing of the program is read here. Proved here: plain facts on lists of gaps, and what slices.MinFunc answers of one (the least; of equals the first), and what choose's own predicate answers of a gap. The conditions stand at each theorem.
-/
import Derived.Test.YthklefelkdhblaaGreatDoorNn10
import Derived.Test.YthklefelkdhblaaGreatDoorNn1
import Derived.Deep.RegionWith
import Derived.Test.YthklefelkdhblaaGreatDoorLays
import Derived.Shelf.SlicesE.DeleteFunc
namespace Go.Proofs.YthklefelkdhblaaGreatDoor
open Go.RowKit
set_option linter.unusedVariables false
set_option linter.unusedSimpArgs false

/-- Sound runs of blocks. -/
def okRuns (rs : List (Nat × Nat)) : Prop := ∀ r ∈ rs, 1 ≤ r.2 ∧ r.1 + r.2 ≤ 480

set_option maxRecDepth 100000 in
set_option maxHeartbeats 1600000 in
theorem markAll_any (ao : Option Addr) (cap : Nat) (zs : List Int) (up : Bool) (ro : Option Addr) (m rcap : Nat) (xs : List Value) (rs : List (Nat × Nat)) (w : World) (hA : Arg w ao 60 cap zs) (hR : Vals w ro m xs) (hS : Stands xs rs) (hok : okRuns rs) (hm : m ≤ 100000) :
    Calls Tryz.prog 40 #[.slice ao 60 cap, .bool up, .slice ro m rcap] w (Handed w.heap.size w (markP zs up rs) 0) := by
  obtain ⟨hB, _, hcap, hlen⟩ := hA
  have hml : rs.length = m := by rw [← hS.1, hR.1]
  have cN := New_own w
  have HL := Lib.hid hB.1
  have HB := Lib.hid hB
  have HR := Lib.hid hR
  have HS := Lib.hid hS
  have HOK := Lib.hid hok
  have HZ : Hid (lay (List.replicate 60 0) 0 zs = zs) := Lib.hid (by
    rw [lay_eq _ _ _ (by rw [HL.out]; decide), HL.out]
    simp)
  have HML := Lib.hid hml
  have H0 : Hid (markP zs up (rs.take 0) = zs) := Lib.hid (markP_nil up hB.1 hB.2.2.1)
  clear hB hR hS hok hml
  go_enter Tryz.func40, Tryz.ntmps40
  go_wp2_with (first | (go_at_call 41; refine cN.mono ?_; rintro e w1 ⟨rfl, hO1⟩; have HO := Lib.hid hO1; have HBW := Lib.hid (HB.out.later hO1.2.2.2.2); clear hO1) | (refine wp_copy rfl (.tmp 19) (.tmp 20) 62 62 rfl _ _ rfl rfl _ (own_copy_bytes HO.out (by decide) ao 60 cap zs HBW.out (by decide) _) ?_; rintro v2 w2 ⟨rfl, hO2⟩; rw [HZ.out] at hO2; have HO2 := Lib.hid hO2; clear hO2))
  have HM2 : Hid (Own w.heap.size w w.heap.size (markP zs up (rs.take 0)) w2) := Lib.hid (by rw [H0.out]; exact HO2.out)
  clear cN
  go_loopw [24] (fun iv wr => ∃ i : Nat, i ≤ m ∧ iv = .int .i64 i ∧ Hid (Own w.heap.size w w.heap.size (markP zs up (rs.take i)) wr)) (fun iv _ => m - (intOf iv).toNat)
  case atStart => exact ⟨0, Nat.zero_le _, rfl, HM2⟩
  case round =>
    obtain ⟨i, hi, rfl, HM⟩ := hrel
    by_cases hlt : i < m
    · have hbw : Below w.heap.size w wr := HM.out.2.2.2.2
      obtain ⟨⟨a, b⟩, hr⟩ : ∃ r, rs[i]? = some r := ⟨_, List.getElem?_eq_getElem (by rw [HML.out]; exact hlt)⟩
      obtain ⟨hb1, hab⟩ := HOK.out _ (List.mem_of_getElem? hr)
      have hb1 : 1 ≤ b := hb1
      have hab : a + b ≤ 480 := hab
      obtain ⟨v, hv⟩ : ∃ v, xs[i]? = some v := ⟨_, List.getElem?_eq_getElem (by rw [HR.out.1]; exact hlt)⟩
      obtain ⟨x, y, rfl, hx, hy⟩ := HS.out.2 i v (a, b) hv hr
      obtain ⟨rb, roff, rfl, hrc⟩ := HR.out.2.2.resolve_left (by omega)
      have hcell := cell_later hbw (hrc i _ hv)
      have HT : Hid (rs.take (i + 1) = rs.take i ++ [(a, b)]) := Lib.hid (by rw [List.take_add_one, hr]; rfl)
      have HN : Hid (Own w.heap.size w w.heap.size (markP zs up (rs.take i ++ [(a, 0)])) wr) := Lib.hid (by rw [markP_zero]; exact HM.out)
      have cP := Parts_any x y a b wr hx hy (by omega) (by omega) (by omega)
      have i2 : (i : Int) < m := by omega
      clear HM hbw hr hv hx hy hrc HM2
      go_wp2_with (go_at_call 92; refine cP.mono ?_; rintro e w' ⟨rfl, rfl⟩)
      clear cP hcell
      go_loopw [37] (fun jv wr => ∃ j : Nat, j ≤ b ∧ jv = .int .i64 j ∧ Hid (Own w.heap.size w w.heap.size (markP zs up (rs.take i ++ [(a, j)])) wr)) (fun jv _ => b - (intOf jv).toNat)
      case atStart => exact ⟨0, Nat.zero_le _, rfl, HN⟩
      case round =>
        obtain ⟨j, hj, rfl, HJ⟩ := hrel
        by_cases hlt2 : j < b
        · have cS := set_any w.heap.size w w.heap.size _ (a + j) up wr HJ.out (markP_length _ _ _) (by omega)
          rw [show ((a + j : Nat) : Int) = (a : Int) + (j : Int) by omega] at cS
          clear HJ
          go_wp2_with (go_at_call 93; refine cS.mono ?_; rintro e w3 ⟨M, rfl, hO3, hl3, hf3⟩; have HJ3 : Hid (Own w.heap.size w w.heap.size (markP zs up (rs.take i ++ [(a, j + 1)])) w3) := Lib.hid (by rw [← markP_step hl3 hO3.1 hf3]; exact hO3); clear hO3 hl3 hf3)
          go_roundw
          case rel => exact ⟨j + 1, by omega, by go_num, HJ3⟩
          case measure => simp [intOf]; omega
        · have hjb : j = b := by omega
          have HB3 : Hid (Own w.heap.size w w.heap.size (markP zs up (rs.take (i + 1))) wr) := Lib.hid (by rw [HT.out, ← hjb]; exact HJ.out)
          clear HJ
          subst hjb
          go_wp2_with fail
          go_roundw
          case rel => exact ⟨i + 1, by omega, by go_num, HB3⟩
          case measure => simp [intOf]; omega
    · have him : i = m := by omega
      have HM3 : Hid (Own w.heap.size w w.heap.size (markP zs up rs) wr) := Lib.hid (by have h := HM.out; rwa [List.take_of_length_le (by rw [HML.out]; omega)] at h)
      have HF := Lib.hid (HM3.out.fresh (cap := 60) (by rw [markP_length]; decide) (by rw [markP_length]; decide))
      have HBl := Lib.hid HM3.out.2.2.2.2
      clear HM HM2
      subst him
      go_wp2_with fail
      go_ret2
      have hf := HF.out
      rw [markP_length] at hf
      exact ⟨_, rfl, hf, HBl.out⟩

/-- Numbers of blocks, or 0. -/
def okNums (l : List Int) : Prop := ∀ x ∈ l, 0 ≤ x ∧ x < 480
theorem okRuns_of {l : List Int} (h : okNums l) : okRuns (runsOf l) := fun r hr => by
  unfold runsOf at hr
  obtain ⟨x, hx, rfl⟩ := List.mem_map.1 hr
  obtain ⟨hx, h0⟩ := List.mem_filter.1 hx
  have h1 := h x hx
  exact ⟨Nat.le_refl _, by show x.toNat + 1 ≤ 480; omega⟩
theorem okRuns_pairs {rs : List (Nat × Nat)} (h : okRuns rs) : ∀ p ∈ rs, p.1 + p.2 ≤ 480 := fun p hp => (h p hp).2
theorem runsOf_length (l : List Int) : (runsOf l).length ≤ l.length := by
  unfold runsOf
  rw [List.length_map]
  exact List.length_filter_le _ _

/-- The runs so far, in a row of the call's own. -/
def RunsRow (base : Nat) (w0 : World) (v : Value) (rs : List (Nat × Nat)) (wr : World) : Prop :=
  wr.ownsRow base 88 1 v rs.length (rs.map cV) ∧ Below base w0 wr

set_option maxRecDepth 100000 in
set_option maxHeartbeats 1600000 in
theorem imark_any (ao : Option Addr) (cap : Nat) (zs : List Int) (up : Bool) (b off n lc : Nat) (ls : List (List Int)) (w : World) (hA : Arg w ao 60 cap zs) (hn : ls.length = n) (hL : ListsIn w b off ls) (h100 : lenL ls ≤ 10000) (hn100 : n ≤ 100) (hok : okNums ls.flatten) :
    Calls Tryz.prog 75 #[.slice ao 60 cap, .bool up, .slice (some ⟨b, off, none⟩) n lc] w (Gives w.heap.size w (markL zs up ls.flatten)) := by
  have cC := Concat_any b off n lc ls w hn hL h100 hn100
  have hlen : ls.flatten.length = lenL ls := by unfold lenL; rw [List.length_flatten]
  obtain ⟨l, hl⟩ : ∃ l, ls.flatten = l := ⟨_, rfl⟩
  obtain ⟨N, hN⟩ : ∃ N, lenL ls = N := ⟨_, rfl⟩
  rw [hl, hN] at cC
  rw [hl] at hok ⊢
  rw [hl, hN] at hlen
  rw [hN] at h100
  have HA := Lib.hid hA
  have HOK := Lib.hid hok
  have HLN := Lib.hid hlen
  have HI : Hid (∀ z ∈ l, I64 z) := Lib.hid (fun z hz => by have := hok z hz; unfold I64; omega)
  clear hA hn hL hl hN hok hlen hn100
  go_enter Tryz.func75, Tryz.ntmps75
  go_wp2_with (go_at_call 129; refine cC.mono ?_; rintro e w1 ⟨v, rfl, ho, hb⟩; obtain ⟨co, cc, rfl, hI1, _⟩ := fresh_of_ints ho HI.out (by omega); rw [HLN.out] at hI1 ⊢; have HI1 := Lib.hid hI1; have HB1 := Lib.hid hb; clear ho hb hI1)
  clear cC
  have HR0 : Hid (RunsRow w1.heap.size w1 (.slice none 0 0) (runsOf (l.take 0)) w1) := Lib.hid ⟨World.ownsRow_nil w1 w1.heap.size 88 1, Below.refl _ _⟩
  go_loopw [7, 13] (fun vv iv wr => ∃ i : Nat, i ≤ N ∧ iv = .int .i64 i ∧ Hid (RunsRow w1.heap.size w1 vv (runsOf (l.take i)) wr)) (fun _ iv _ => N - (intOf iv).toNat)
  case atStart => exact ⟨0, Nat.zero_le _, rfl, HR0⟩
  case round =>
    obtain ⟨i, hi, rfl, HR⟩ := hrel
    by_cases hlt : i < N
    · obtain ⟨cb, coff, x, rfl, hx, hcell, hx64⟩ := HI1.out.at hlt
      have hx0 := HOK.out x (List.mem_of_getElem? hx)
      have hcell := cell_later HR.out.2 hcell
      have HT : Hid (runsOf (l.take (i + 1)) = if x = 0 then runsOf (l.take i) else runsOf (l.take i) ++ [(x.toNat, 1)]) := Lib.hid (by
        rw [List.take_add_one, hx]
        exact runsOf_snoc _ _)
      have hlen2 : (runsOf (l.take i)).length ≤ 10000 := by
        have := runsOf_length (l.take i)
        rw [List.length_take] at this
        omega
      obtain ⟨acc, hacc⟩ : ∃ acc, runsOf (l.take i) = acc := ⟨_, rfl⟩
      rw [hacc] at HR hlen2 HT
      have i2 : (i : Int) < N := by omega
      clear hx hacc HR0
      obtain ⟨ho, hbw⟩ := HR.out
      have HO := Lib.hid ho
      have HW := Lib.hid hbw
      have HS : Hid (w1.heap.size ≤ wr.heap.size + 1) := Lib.hid (by have := hbw.size; omega)
      clear ho hbw HR
      by_cases h0 : x = 0
      · have HE : Hid (RunsRow w1.heap.size w1 _ (runsOf (l.take (i + 1))) wr) := Lib.hid (by rw [HT.out, if_pos h0]; exact ⟨HO.out, HW.out⟩)
        subst h0
        go_wp2_with fail
        go_roundw
        case rel => exact ⟨i + 1, by omega, by go_num, HE⟩
        case measure => simp [intOf]; omega
      · have hne : (x != 0) = true := by simpa using h0
        have HE : Hid (∀ v1 w1', w1'.ownsRow w1.heap.size 88 1 v1 (acc.length + 1) (acc.map cV ++ [cV (x.toNat, 1)]) → Below w1.heap.size w1 w1' → RunsRow w1.heap.size w1 v1 (runsOf (l.take (i + 1))) w1') := Lib.hid (fun v1 w1' h1 h2 => by
          rw [HT.out, if_neg h0]
          exact ⟨by rw [List.length_append, List.map_append]; exact h1, h2⟩)
        have cO := OfF_any x.toNat 1 wr (by omega) (by omega)
        rw [show ((x.toNat : Nat) : Int) = x by omega] at cO
        have HX : Hid (cV (x.toNat, 1) = .complex .f64 (floatOfInt .f64 x) (floatOfInt .f64 1)) := Lib.hid (by unfold cV; rw [show (((x.toNat, 1) : Nat × Nat).1 : Int) = x from by show ((x.toNat : Nat) : Int) = x; omega]; rfl)
        clear h0 HT
        go_wp2_with (first | (go_at_call 43; refine cO.mono ?_; rintro e w'' ⟨rfl, rfl⟩) | (go_at_call 42; refine (mustC_any _ _).mono ?_; rintro e w'' ⟨rfl, rfl⟩) | (at_builtin; refine wp_append_one elemComplex rfl (.tmp 19) (.tmp 25) rfl w1.heap.size acc.length _ _ rfl (HO.out.alloc _) ⟨wr.heap.size, 0, none⟩ 1 _ rfl (one_cell_new _ _ _) rfl rfl (by omega) (by simpa using HS.out) ?_; intro v1 w1' hown1 hb1; have HO1 := Lib.hid hown1; have HB2 := Lib.hid hb1; clear hown1 hb1))
        go_roundw
        case rel => exact ⟨i + 1, by omega, by go_num, Lib.hid (HE.out _ _ (by rw [HX.out]; exact HO1.out) ((HW.out.alloc (by have := HW.out.size; exact this) _).trans HB2.out))⟩
        case measure => simp [intOf]; omega
    · have hit : i = N := by omega
      subst hit
      have hfull : l.take i = l := List.take_of_length_le (by rw [HLN.out]; exact Nat.le_refl _)
      have hR := HR.out
      rw [hfull] at hR
      have hrl : (runsOf l).length ≤ 10000 := by have := runsOf_length l; have := HLN.out; omega
      obtain ⟨ro, rcap, rfl, hV, hrc, _⟩ := owns_vals hR.1 (by omega)
      have hml : ((runsOf l).map cV).length = (runsOf l).length := List.length_map _
      rw [hml] at hV
      have HBW : Hid (Below w.heap.size w wr) := Lib.hid (HB1.out.trans (hR.2.mono HB1.out.size))
      have HM : Hid (Calls Tryz.prog 40 #[.slice ao 60 cap, .bool up, .slice ro (runsOf l).length rcap] wr (Handed wr.heap.size wr (markL zs up l) 0)) := Lib.hid (markAll_any ao cap zs up ro _ rcap _ (runsOf l) wr (HA.out.later HBW.out) hV (stands_cV (okRuns_pairs (okRuns_of HOK.out))) (okRuns_of HOK.out) (by omega))
      rw [hml]
      obtain ⟨M, hM⟩ : ∃ M, (runsOf l).length = M := ⟨_, rfl⟩
      rw [hM] at HM ⊢
      clear hR hV hrc hml hM hfull HR HR0 hrl
      go_wp2_with (first | (go_at_call 40; refine HM.out.mono ?_; rintro e w3 ⟨v3, rfl, hf3, hb3⟩; have HF3 := Lib.hid hf3; have HB3 := Lib.hid (HBW.out.trans (hb3.mono HBW.out.size)); clear hf3 hb3) | (go_at_call 37; refine (mustB_any _ _).mono ?_; rintro e w'' ⟨rfl, rfl⟩))
      go_ret
      exact ⟨v3, rfl, HF3.out.mono HBW.out.size, HB3.out⟩
end Go.Proofs.YthklefelkdhblaaGreatDoor


namespace Go.Proofs.YthklefelkdhblaaGreatDoor
open Go.RowKit

/-! Which gap is chosen -/

def gapErr (len : Nat) (n lo hi : Int) : Int := if downErr len lo hi ≠ 0 then downErr len lo hi else if n < 1 ∨ 480 < n then 1 else 0

end Go.Proofs.YthklefelkdhblaaGreatDoor



namespace Go.Proofs.YthklefelkdhblaaGreatDoor

/-- Of the gaps of at least n the shortest, of equal ones the first: one step. -/
def tighter (n : Nat) (best : Option (Nat × Nat)) (p : Nat × Nat) : Option (Nat × Nat) :=
  match best with
  | none => if n ≤ p.2 then some p else none
  | some b => if n ≤ p.2 ∧ p.2 < b.2 then some p else some b

def tightGap (l : List (Nat × Nat)) (n : Nat) : Option (Nat × Nat) := l.foldl (tighter n) none

/-- The error, behind the gaps' own. -/
def pickErr (E : Int) (o : Option (Nat × Nat)) : Int := if E = 0 then (if o = none then 6 else 0) else E
/-- The run of the first n blocks of what was chosen; none: 0. -/
def pickOut (E : Int) (o : Option (Nat × Nat)) (n : Nat) : Nat × Nat :=
  if E = 0 then (match o with | some p => (p.1, n) | none => (0, 0)) else (0, 0)

end Go.Proofs.YthklefelkdhblaaGreatDoor


namespace Go.Proofs.YthklefelkdhblaaGreatDoor
open Go.RowKit

/-- A call that hands back one run and an error's number, and makes new memory alone. -/
def HandedRun (base : Nat) (w0 : World) (p : Nat × Nat) (err : Int) (e : Ending) (w' : World) : Prop :=
  ∃ x y, e = .returned (.tuple #[.complex .f64 x y, .int .i64 err]) ∧ FI x (p.1 : Int) ∧ FI y (p.2 : Int) ∧ Below base w0 w'

theorem gap_ok {len : Nat} {n lo hi : Int} (h : gapErr len n lo hi = 0) : 1 ≤ n ∧ n ≤ 480 := by
  unfold gapErr at h
  by_cases h1 : downErr len lo hi = 0
  · rw [if_neg (by simp [h1])] at h
    by_cases h2 : n < 1 ∨ 480 < n
    · rw [if_pos h2] at h; exact absurd h (by decide)
    · omega
  · rw [if_pos h1] at h; exact absurd h h1

end Go.Proofs.YthklefelkdhblaaGreatDoor



namespace Go.Proofs.YthklefelkdhblaaGreatDoor
open Go.RowKit

/-- A complex number that stands for a run of blocks, or 0: its two parts as floats' bits, and the numbers that they are. -/
def Gp : Type := { z : (Nat × Nat) × (Nat × Nat) // FI z.1.1 (z.2.1 : Int) ∧ FI z.1.2 (z.2.2 : Int) ∧ z.2.1 + z.2.2 ≤ 480 ∧ (1 ≤ z.2.2 ∨ z = ((0, 0), (0, 0))) }

def mkG (a b : Nat) (p : Nat × Nat) (ha : FI a (p.1 : Int)) (hb : FI b (p.2 : Int)) (h : p.1 + p.2 ≤ 480) (h1 : 1 ≤ p.2) : Gp := ⟨((a, b), p), ha, hb, h, Or.inl h1⟩
def zeroG : Gp := ⟨((0, 0), (0, 0)), fi_zero, fi_zero, by decide, Or.inr rfl⟩
instance : Inhabited Gp := ⟨zeroG⟩
/-- As a value. -/
def encG (z : Gp) : Value := .complex .f64 z.1.1.1 z.1.1.2
/-- The first block, and how many. -/
def numG (z : Gp) : Nat × Nat := z.1.2

theorem gp_cases (z : Gp) : (1 ≤ (numG z).2 ∨ z = zeroG) := by
  obtain ⟨z, h1, h2, h3, h4⟩ := z
  rcases h4 with h | h
  · exact Or.inl h
  · exact Or.inr (Subtype.ext h)

theorem gp_bound (z : Gp) : (numG z).1 + (numG z).2 ≤ 480 := z.2.2.2.1
theorem gp_fst (z : Gp) : FI z.1.1.1 ((numG z).1 : Int) := z.2.1
theorem gp_snd (z : Gp) : FI z.1.1.2 ((numG z).2 : Int) := z.2.2.1

/-! ### 0 is no run -/

set_option maxHeartbeats 400000 in
theorem Sound_zero (w : World) :
    Calls Tryz.prog 152 #[.complex .f64 0 0] w fun e w' => e = .returned (.bool false) ∧ w = w' := by
  have c := Whole_any 0 0 0 0 w fi_zero fi_zero (by decide) (by decide)
  have o1 := fi_ge fi_zero fi_zero (Int.le_refl 0)
  have o2 := fi_lt fi_zero fi_one (by decide)
  go_enter Tryz.func152, Tryz.ntmps152
  go_wp2_with (go_at_call 204; refine c.mono ?_; rintro e w' ⟨rfl, rfl⟩)
  go_ret
  exact ⟨rfl, rfl⟩

set_option maxHeartbeats 400000 in
theorem Parts_zero (w : World) :
    Calls Tryz.prog 92 #[.complex .f64 0 0] w fun e w' => e = .returned (.tuple #[.int .i64 0, .int .i64 0, .int .i64 2]) ∧ w = w' := by
  have c := Sound_zero w
  go_enter Tryz.func92, Tryz.ntmps92
  go_wp2_with (go_at_call 152; refine c.mono ?_; rintro e w' ⟨rfl, rfl⟩)
  go_ret3
  exact ⟨rfl, rfl⟩

/-! ### One gap -/

theorem parts_gp (z : Gp) (w : World) :
    Calls Tryz.prog 92 #[encG z] w fun e w' => (∃ r : Int, e = .returned (.tuple #[.int .i64 (numG z).1, .int .i64 (numG z).2, .int .i64 r])) ∧ w = w' := by
  rcases gp_cases z with h | h
  · refine (Parts_any _ _ _ _ w (gp_fst z) (gp_snd z) (by omega) (by omega) (by have := gp_bound z; omega)).mono ?_
    rintro e w' ⟨rfl, rfl⟩
    exact ⟨⟨_, rfl⟩, rfl⟩
  · subst h
    refine (Parts_zero w).mono ?_
    rintro e w' ⟨rfl, rfl⟩
    exact ⟨⟨_, rfl⟩, rfl⟩

set_option maxHeartbeats 400000 in
theorem count_gp (z : Gp) (w : World) :
    Calls Tryz.prog 172 #[encG z] w fun e w' => e = .returned (.int .i64 (numG z).2) ∧ w = w' := by
  have c := parts_gp z w
  generalize ((numG z).1 : Int) = a at c
  generalize ((numG z).2 : Int) = b at c ⊢
  unfold encG at c ⊢
  go_enter Tryz.func172, Tryz.ntmps172
  go_wp2_with (go_at_call 92; refine c.mono ?_; rintro e w' ⟨⟨r, rfl⟩, rfl⟩)
  go_ret
  exact ⟨rfl, rfl⟩

/-! ### Two gaps -/

/-- -1, 0 or 1, as a is less than b, is b, or is greater. -/
def cmpN (a b : Nat) : Int := if a < b then -1 else if b < a then 1 else 0

set_option maxHeartbeats 400000 in
theorem isNaN_any (x : Nat) (a : Int) (w : World) (hx : FI x a) :
    Calls Tryz.prog 223 #[.float .f64 x] w fun e w' => e = .returned (.bool false) ∧ w = w' := by
  have o1 := fi_eq hx hx rfl
  clear hx
  go_enter Tryz.func223, Tryz.ntmps223
  go_wp2_with fail
  go_ret
  exact ⟨rfl, rfl⟩

set_option maxHeartbeats 800000 in
theorem Compare_float (x y a b : Nat) (w : World) (hx : FI x (a : Int)) (hy : FI y (b : Int)) :
    Calls Tryz.prog 179 #[.float .f64 x, .float .f64 y] w fun e w' => e = .returned (.int .i64 (cmpN a b)) ∧ w = w' := by
  have c1 := isNaN_any x a w hx
  have c2 := isNaN_any y b w hy
  unfold cmpN
  rcases Nat.lt_trichotomy a b with h | h | h
  · rw [if_pos h]
    have o1 := fi_lt hx hy (by omega)
    clear hx hy h
    go_enter Tryz.func179, Tryz.ntmps179
    go_wp2_with (go_at_call 223; first | ((with_reducible refine c1.mono ?_); rintro e w' ⟨rfl, rfl⟩) | ((with_reducible refine c2.mono ?_); rintro e w' ⟨rfl, rfl⟩))
    go_ret
    exact ⟨rfl, rfl⟩
  · rw [if_neg (by omega), if_neg (by omega)]
    have o1 := fi_eq hx hy (by omega)
    clear hx hy h
    go_enter Tryz.func179, Tryz.ntmps179
    go_wp2_with (go_at_call 223; first | ((with_reducible refine c1.mono ?_); rintro e w' ⟨rfl, rfl⟩) | ((with_reducible refine c2.mono ?_); rintro e w' ⟨rfl, rfl⟩))
    go_ret
    exact ⟨rfl, rfl⟩
  · rw [if_neg (by omega), if_pos h]
    have o1 := fi_gt hx hy (by omega)
    clear hx hy h
    go_enter Tryz.func179, Tryz.ntmps179
    go_wp2_with (go_at_call 223; first | ((with_reducible refine c1.mono ?_); rintro e w' ⟨rfl, rfl⟩) | ((with_reducible refine c2.mono ?_); rintro e w' ⟨rfl, rfl⟩))
    go_ret
    exact ⟨rfl, rfl⟩

set_option maxHeartbeats 800000 in
theorem Compare_int (a b : Nat) (w : World) :
    Calls Tryz.prog 171 #[.int .i64 a, .int .i64 b] w fun e w' => e = .returned (.int .i64 (cmpN a b)) ∧ w = w' := by
  unfold cmpN
  rcases Nat.lt_trichotomy a b with h | h | h
  · rw [if_pos h]
    have h1 : (a : Int) < (b : Int) := by omega
    clear h
    go_enter Tryz.func171, Tryz.ntmps171
    go_wp2
    all_goals (go_ret; exact ⟨rfl, rfl⟩)
  · rw [if_neg (by omega), if_neg (by omega)]
    subst h
    go_enter Tryz.func171, Tryz.ntmps171
    go_wp2
    all_goals (go_ret; exact ⟨rfl, rfl⟩)
  · rw [if_neg (by omega), if_pos h]
    have h1 : (b : Int) < (a : Int) := by omega
    have h2 : ¬ (a : Int) < (b : Int) := by omega
    clear h
    go_enter Tryz.func171, Tryz.ntmps171
    go_wp2
    all_goals (go_ret; exact ⟨rfl, rfl⟩)

/-- What a comparison of two gaps answers: a plain function; nothing else happens. -/
def Cmps (g : Nat) (cf : Gp → Gp → Int) : Prop := ∀ (x y : Gp) (w : World), Calls Tryz.prog g #[encG x, encG y] w fun e w' => e = .returned (.int .i64 (cf x y)) ∧ w = w'

def byFirst (x y : Gp) : Int := cmpN (numG x).1 (numG y).1
def byCount (x y : Gp) : Int := cmpN (numG x).2 (numG y).2
def byRest (x y : Gp) : Int := cmpN (numG y).2 (numG x).2

set_option maxHeartbeats 400000 in
theorem tight_cmp : Cmps 170 byCount := by
  intro x y w
  have c := Compare_int (numG x).2 (numG y).2 w
  have c1 := count_gp x w
  have c2 := count_gp y w
  unfold byCount
  generalize cmpN (numG x).2 (numG y).2 = r at c ⊢
  unfold encG at c1 c2 ⊢
  go_enter Tryz.func170, Tryz.ntmps170
  go_wp2_with (first | (go_at_call 171; refine c.mono ?_; rintro e w' ⟨rfl, rfl⟩) | (go_at_call 172; first | ((with_reducible refine c1.mono ?_); rintro e w' ⟨rfl, rfl⟩) | ((with_reducible refine c2.mono ?_); rintro e w' ⟨rfl, rfl⟩)))
  go_ret
  exact ⟨rfl, rfl⟩

set_option maxHeartbeats 400000 in
theorem rest_cmp : Cmps 175 byRest := by
  intro x y w
  have c := Compare_int (numG y).2 (numG x).2 w
  have c1 := count_gp x w
  have c2 := count_gp y w
  unfold byRest
  generalize cmpN (numG y).2 (numG x).2 = r at c ⊢
  unfold encG at c1 c2 ⊢
  go_enter Tryz.func175, Tryz.ntmps175
  go_wp2_with (first | (go_at_call 171; refine c.mono ?_; rintro e w' ⟨rfl, rfl⟩) | (go_at_call 172; first | ((with_reducible refine c1.mono ?_); rintro e w' ⟨rfl, rfl⟩) | ((with_reducible refine c2.mono ?_); rintro e w' ⟨rfl, rfl⟩)))
  go_ret
  exact ⟨rfl, rfl⟩

set_option maxHeartbeats 400000 in
theorem last_cmp : Cmps 178 byFirst := by
  intro x y w
  have c := Compare_float _ _ _ _ w (gp_fst x) (gp_fst y)
  unfold byFirst
  generalize cmpN (numG x).1 (numG y).1 = r at c ⊢
  unfold encG
  go_enter Tryz.func178, Tryz.ntmps178
  go_wp2_with (go_at_call 179; refine c.mono ?_; rintro e w' ⟨rfl, rfl⟩)
  go_ret
  exact ⟨rfl, rfl⟩

/-! ### A run in two parts -/

set_option maxHeartbeats 400000 in
theorem of_none (a b : Int) (w : World) (hb : b < 1) :
    Calls Tryz.prog 94 #[.int .i64 a, .int .i64 b] w fun e w' => e = .returned (.complex .f64 0 0) ∧ w = w' := by
  go_enter Tryz.func94, Tryz.ntmps94
  go_wp2
  go_ret
  exact ⟨rfl, rfl⟩

theorem of_some (a b : Nat) : ∃ x y, ∀ w : World,
    Calls Tryz.prog 94 #[.int .i64 a, .int .i64 b] w fun e w' => e = .returned (.complex .f64 x y) ∧ w = w' := by
  by_cases h : 1 ≤ b
  · exact ⟨_, _, fun w => ofF_any a b w h⟩
  · exact ⟨_, _, fun w => of_none a b w (by omega)⟩

set_option maxHeartbeats 800000 in
theorem Cut_any (x y a b n : Nat) (hx : FI x (a : Int)) (hy : FI y (b : Int)) (hn : 1 ≤ n) (hnb : n ≤ b) (hab : a + b ≤ 480) : ∃ u v, ∀ w : World,
    Calls Tryz.prog 216 #[.complex .f64 x y, .int .i64 n] w fun e w' => e = .returned (.tuple #[.complex .f64 (floatOfInt .f64 (a : Int)) (floatOfInt .f64 (n : Int)), .complex .f64 u v, .int .i64 0]) ∧ w' = w := by
  obtain ⟨u, v, hr⟩ := of_some (a + n) (b - n)
  refine ⟨u, v, fun w => ?_⟩
  have cP := Parts_any x y a b w hx hy (by omega) (by omega) (by omega)
  have c1 := ofF_any a n w hn
  have c2 := hr w
  rw [show ((a + n : Nat) : Int) = (a : Int) + (n : Int) by omega, show ((b - n : Nat) : Int) = (b : Int) - (n : Int) by omega] at c2
  have h1 : ¬ (n : Int) < 0 := by omega
  have h2 : ¬ (b : Int) < (n : Int) := by omega
  have h3 : IntKind.i64.wrap ((a : Int) + (n : Int)) = (a : Int) + (n : Int) := IntWalk.i64_in _ (by omega)
  have h4 : IntKind.i64.wrap ((b : Int) - (n : Int)) = (b : Int) - (n : Int) := IntWalk.i64_in _ (by omega)
  clear hx hy hn hnb hab hr
  go_enter Tryz.func216, Tryz.ntmps216
  go_wp2_with (first | (go_at_call 92; refine cP.mono ?_; rintro e w' ⟨rfl, rfl⟩) | (go_at_call 94; first | ((with_reducible refine c1.mono ?_); rintro e w' ⟨rfl, rfl⟩) | ((with_reducible refine c2.mono ?_); rintro e w' ⟨rfl, rfl⟩)))
  go_ret3
  exact ⟨rfl, rfl⟩

/-! ### All gaps -/

set_option maxRecDepth 100000 in
set_option maxHeartbeats 800000 in
theorem cgaps_any (ao : Option Addr) (len cap : Nat) (zs : List Int) (n p q : Int) (w : World) (hA : Arg w ao len cap zs) (hp : -9223372036854775808 ≤ p ∧ p ≤ 9223372036854775807) (hq : -9223372036854775808 ≤ q ∧ q ≤ 9223372036854775807) :
    Calls Tryz.prog 173 #[.slice ao len cap, .int .i64 n, .int .i64 p, .int .i64 q] w (HandedRuns w.heap.size w (if gapErr len n p q = 0 then downOut zs p q else []) (gapErr len n p q)) := by
  have c := xDown_any ao len cap zs p q w hA hp hq
  generalize downOut zs p q = l at *
  unfold gapErr
  generalize downErr len p q = E at *
  clear hA hp hq
  by_cases hE : E = 0
  · rw [hE] at c
    rw [hE, show (if (0 : Int) ≠ 0 then (0 : Int) else if n < 1 ∨ 480 < n then 1 else 0) = (if n < 1 ∨ 480 < n then 1 else 0) from if_neg (by decide)]
    clear hE
    by_cases h1 : n < 1
    · rw [if_pos (Or.inl h1), if_neg (show ¬ (1 : Int) = 0 by decide)]
      go_enter Tryz.func173, Tryz.ntmps173
      go_wp2_with (go_at_call 219; refine c.mono ?_; rintro e w1 ⟨v1, xs, rfl, hf1, hs1, hb1⟩; have HB1 := Lib.hid hb1; clear hf1 hs1 hb1)
      go_ret2
      exact ⟨_, [], rfl, FreshV.nil _ _, stands_nil, HB1.out⟩
    · by_cases h2 : 480 < n
      · rw [if_pos (Or.inr h2), if_neg (show ¬ (1 : Int) = 0 by decide)]
        go_enter Tryz.func173, Tryz.ntmps173
        go_wp2_with (go_at_call 219; refine c.mono ?_; rintro e w1 ⟨v1, xs, rfl, hf1, hs1, hb1⟩; have HB1 := Lib.hid hb1; clear hf1 hs1 hb1)
        go_ret2
        exact ⟨_, [], rfl, FreshV.nil _ _, stands_nil, HB1.out⟩
      · rw [if_neg (show ¬ (n < 1 ∨ 480 < n) by omega), if_pos rfl]
        go_enter Tryz.func173, Tryz.ntmps173
        go_wp2_with (go_at_call 219; refine c.mono ?_; rintro e w1 ⟨v1, xs, rfl, hf1, hs1, hb1⟩; have HF1 := Lib.hid hf1; have HS1 := Lib.hid hs1; have HB1 := Lib.hid hb1; obtain ⟨ao1, c1, hv1, _, _, _⟩ := hf1; rw [hv1]; rw [hv1] at HF1; clear hv1 hs1 hb1)
        go_ret2
        exact ⟨_, xs, rfl, HF1.out, HS1.out, HB1.out⟩
  · rw [if_pos hE, if_neg hE]
    have hne : (E == 0) = false := by simp; exact hE
    clear hE
    go_enter Tryz.func173, Tryz.ntmps173
    go_wp2_with (go_at_call 219; refine c.mono ?_; rintro e w1 ⟨v1, xs, rfl, hf1, hs1, hb1⟩; have HF1 := Lib.hid hf1; have HS1 := Lib.hid hs1; have HB1 := Lib.hid hb1; obtain ⟨ao1, c1, hv1, _, _, _⟩ := hf1; rw [hv1]; rw [hv1] at HF1; clear hv1 hs1 hb1)
    go_ret2
    exact ⟨_, [], rfl, FreshV.nil _ _, stands_nil, HB1.out⟩

end Go.Proofs.YthklefelkdhblaaGreatDoor



namespace Go.Proofs.YthklefelkdhblaaGreatDoor

/-- Is p taken ahead of q, or is it q? The longer first, of equal ones the first. -/
def aheadB (p q : Nat × Nat) : Bool := decide (q.2 < p.2 ∨ (q.2 = p.2 ∧ p.1 ≤ q.1))
def byLen (l : List (Nat × Nat)) : List (Nat × Nat) := l.mergeSort aheadB
/-- The first of them until there are n blocks. -/
def cutAt : List (Nat × Nat) → Nat → List (Nat × Nat)
  | [], _ => []
  | p :: r, n => if n = 0 then [] else if n ≤ p.2 then [(p.1, n)] else p :: cutAt r (n - p.2)
def firstB (p q : Nat × Nat) : Bool := decide (p.1 ≤ q.1)
def someOf (l : List (Nat × Nat)) (n : Nat) : List (Nat × Nat) := (cutAt (byLen l) n).mergeSort firstB
def someErr (E : Int) (l : List (Nat × Nat)) (n : Nat) : Int := if E = 0 then (if sumG l < n then 6 else 0) else E
def someOut (E : Int) (l : List (Nat × Nat)) (n : Nat) : List (Nat × Nat) := if E = 0 ∧ n ≤ sumG l then someOf l n else []

theorem ahead_trans (a b c : Nat × Nat) (h1 : aheadB a b = true) (h2 : aheadB b c = true) : aheadB a c = true := by
  unfold aheadB at *
  rw [decide_eq_true_iff] at *
  omega
theorem ahead_total (a b : Nat × Nat) : (aheadB a b || aheadB b a) = true := by
  unfold aheadB
  rw [Bool.or_eq_true, decide_eq_true_iff, decide_eq_true_iff]
  omega
theorem ahead_anti {a b : Nat × Nat} (h1 : aheadB a b = true) (h2 : aheadB b a = true) : a = b := by
  unfold aheadB at *
  rw [decide_eq_true_iff] at *
  exact Prod.ext (by omega) (by omega)
theorem first_trans (a b c : Nat × Nat) (h1 : firstB a b = true) (h2 : firstB b c = true) : firstB a c = true := by
  unfold firstB at *
  rw [decide_eq_true_iff] at *
  omega
theorem first_total (a b : Nat × Nat) : (firstB a b || firstB b a) = true := by
  unfold firstB
  rw [Bool.or_eq_true, decide_eq_true_iff, decide_eq_true_iff]
  omega

theorem byLen_perm (l : List (Nat × Nat)) : (byLen l).Perm l := List.mergeSort_perm l _
theorem byLen_sorted (l : List (Nat × Nat)) : (byLen l).Pairwise (fun a b => aheadB a b = true) := List.pairwise_mergeSort ahead_trans ahead_total l
theorem someOf_perm (l : List (Nat × Nat)) (n : Nat) : (someOf l n).Perm (cutAt (byLen l) n) := List.mergeSort_perm _ _
theorem someOf_sorted (l : List (Nat × Nat)) (n : Nat) : (someOf l n).Pairwise (fun a b => firstB a b = true) := List.pairwise_mergeSort first_trans first_total _

theorem sumG_perm {l m : List (Nat × Nat)} (h : l.Perm m) : sumG l = sumG m := by
  induction h with
  | nil => rfl
  | cons x _ ih => show x.2 + _ = x.2 + _; rw [ih]
  | swap x y l => show y.2 + (x.2 + sumG l) = x.2 + (y.2 + sumG l); omega
  | trans _ _ ih1 ih2 => rw [ih1, ih2]

theorem cut_sum : ∀ (l : List (Nat × Nat)) (n : Nat), n ≤ sumG l → sumG (cutAt l n) = n
  | [], n, h => by
    have : n = 0 := by have h' : n ≤ 0 := h; omega
    rw [this]; rfl
  | p :: r, n, h => by
    have h' : n ≤ p.2 + sumG r := h
    unfold cutAt
    by_cases h0 : n = 0
    · rw [if_pos h0, h0]; rfl
    · rw [if_neg h0]
      by_cases h1 : n ≤ p.2
      · rw [if_pos h1]
        show n + 0 = n
        omega
      · rw [if_neg h1]
        show p.2 + sumG (cutAt r (n - p.2)) = n
        rw [cut_sum r (n - p.2) (by omega)]
        omega

/-- Each of those that are taken is the first part of a gap. -/
theorem cut_mem : ∀ (l : List (Nat × Nat)) (n : Nat), (∀ q ∈ l, 1 ≤ q.2) → ∀ p ∈ cutAt l n, ∃ q ∈ l, p.1 = q.1 ∧ 1 ≤ p.2 ∧ p.2 ≤ q.2
  | [], _, _, p, hp => by simp [cutAt] at hp
  | x :: r, n, h1, p, hp => by
    unfold cutAt at hp
    by_cases h0 : n = 0
    · rw [if_pos h0] at hp; simp at hp
    · rw [if_neg h0] at hp
      by_cases hx : n ≤ x.2
      · rw [if_pos hx, List.mem_singleton] at hp
        subst hp
        exact ⟨x, by simp, rfl, by show 1 ≤ n; omega, hx⟩
      · rw [if_neg hx] at hp
        rcases List.mem_cons.1 hp with hp | hp
        · rw [hp]
          exact ⟨x, by simp, rfl, h1 x (by simp), Nat.le_refl _⟩
        · obtain ⟨q, hq, h⟩ := cut_mem r (n - x.2) (fun q hq => h1 q (List.mem_cons_of_mem _ hq)) p hp
          exact ⟨q, List.mem_cons_of_mem _ hq, h⟩

theorem Rise.ahead : ∀ {l : List (Nat × Nat)} {lo : Nat}, Rise lo l → ∀ p ∈ l, lo ≤ p.1
  | [], _, _, p, hp => by simp at hp
  | x :: r, lo, h, p, hp => by
    rcases List.mem_cons.1 hp with hp | hp
    · rw [hp]; exact h.1
    · have := Rise.ahead h.2 p hp
      have := h.1
      omega

theorem Rise.pairs : ∀ {l : List (Nat × Nat)} {lo : Nat}, Rise lo l → l.Pairwise (fun a b => a.1 + a.2 < b.1)
  | [], _, _ => List.Pairwise.nil
  | x :: r, lo, h => List.Pairwise.cons (fun b hb => by have := Rise.ahead h.2 b hb; omega) (Rise.pairs h.2)

end Go.Proofs.YthklefelkdhblaaGreatDoor


namespace Go.Proofs.YthklefelkdhblaaGreatDoor

theorem tight_mem_of : ∀ (l : List (Nat × Nat)) (n : Nat) (o : Option (Nat × Nat)) (p : Nat × Nat), l.foldl (tighter n) o = some p → o = some p ∨ (p ∈ l ∧ n ≤ p.2)
  | [], _, _, _, h => Or.inl h
  | x :: r, n, o, p, h => by
    rcases tight_mem_of r n (tighter n o x) p h with h1 | h1
    · cases o with
      | none =>
        have h2 : (if n ≤ x.2 then some x else none) = some p := h1
        by_cases hc : n ≤ x.2
        · rw [if_pos hc] at h2
          cases h2
          exact Or.inr ⟨by simp, hc⟩
        · rw [if_neg hc] at h2; cases h2
      | some b =>
        have h2 : (if n ≤ x.2 ∧ x.2 < b.2 then some x else some b) = some p := h1
        by_cases hc : n ≤ x.2 ∧ x.2 < b.2
        · rw [if_pos hc] at h2
          cases h2
          exact Or.inr ⟨by simp, hc.1⟩
        · rw [if_neg hc] at h2
          exact Or.inl h2
    · exact Or.inr ⟨List.mem_cons_of_mem _ h1.1, h1.2⟩

theorem tight_mem {l : List (Nat × Nat)} {n : Nat} {p : Nat × Nat} (h : tightGap l n = some p) : p ∈ l ∧ n ≤ p.2 := by
  rcases tight_mem_of l n none p h with h | h
  · cases h
  · exact h

theorem some_mem {l : List (Nat × Nat)} {n : Nat} (h1 : ∀ q ∈ l, 1 ≤ q.2) : ∀ p ∈ someOf l n, ∃ q ∈ l, p.1 = q.1 ∧ 1 ≤ p.2 ∧ p.2 ≤ q.2 := by
  intro p hp
  have hp := (someOf_perm l n).mem_iff.1 hp
  obtain ⟨q, hq, h⟩ := cut_mem (byLen l) n (fun q hq => h1 q ((byLen_perm l).mem_iff.1 hq)) p hp
  exact ⟨q, (byLen_perm l).mem_iff.1 hq, h⟩

theorem some_sum {l : List (Nat × Nat)} {n : Nat} (h : n ≤ sumG l) : sumG (someOf l n) = n := by
  rw [sumG_perm (someOf_perm l n)]
  exact cut_sum _ _ (by rw [sumG_perm (byLen_perm l)]; exact h)

theorem cut_firsts : ∀ (l : List (Nat × Nat)) (n : Nat), ((cutAt l n).map (·.1)).Sublist (l.map (·.1))
  | [], _ => List.Sublist.slnil
  | p :: r, n => by
    unfold cutAt
    by_cases h0 : n = 0
    · rw [if_pos h0]; exact List.nil_sublist _
    · rw [if_neg h0]
      by_cases h1 : n ≤ p.2
      · rw [if_pos h1]
        exact List.Sublist.cons_cons _ (List.nil_sublist _)
      · rw [if_neg h1]
        exact List.Sublist.cons_cons _ (cut_firsts r (n - p.2))

theorem some_firsts {l : List (Nat × Nat)} (h : l.Pairwise (fun a b => a.1 + a.2 < b.1)) (n : Nat) : (someOf l n).Pairwise (fun a b => a.1 < b.1) := by
  have h1 : (l.map (·.1)).Pairwise (· ≠ ·) := List.pairwise_map.2 (h.imp (fun {a b} hab => by omega))
  have h2 : ((byLen l).map (·.1)).Pairwise (· ≠ ·) := h1.perm ((byLen_perm l).symm.map _) (fun {x y} hxy => Ne.symm hxy)
  have h3 : ((cutAt (byLen l) n).map (·.1)).Pairwise (· ≠ ·) := h2.sublist (cut_firsts _ _)
  have h4 : ((someOf l n).map (·.1)).Pairwise (· ≠ ·) := h3.perm ((someOf_perm l n).symm.map _) (fun {x y} hxy => Ne.symm hxy)
  have h5 := List.pairwise_map.1 h4
  refine (h5.and (someOf_sorted l n)).imp (fun {a b} hab => ?_)
  have h6 := hab.2
  unfold firstB at h6
  rw [decide_eq_true_iff] at h6
  have := hab.1
  omega

end Go.Proofs.YthklefelkdhblaaGreatDoor


namespace Go.Proofs.YthklefelkdhblaaGreatDoor
open Go.RowKit

theorem gps_of : ∀ {xs : List Value} {l : List (Nat × Nat)}, Stands xs l → (∀ p ∈ l, p.1 + p.2 ≤ 480 ∧ 1 ≤ p.2) → ∃ gs : List Gp, gs.map encG = xs ∧ gs.map numG = l
  | [], [], _, _ => ⟨[], rfl, rfl⟩
  | [], p :: l, h, _ => by have := h.1; simp at this
  | x :: xs, [], h, _ => by have := h.1; simp at this
  | x :: xs, p :: l, h, hb => by
    obtain ⟨a, b, hx, fa, fb⟩ := h.2 0 x p rfl rfl
    obtain ⟨gs, h1, h2⟩ := gps_of (xs := xs) (l := l) ⟨by have := h.1; simpa using this, fun j y q hy hq => h.2 (j + 1) y q (by simpa using hy) (by simpa using hq)⟩ (fun q hq => hb q (List.mem_cons_of_mem _ hq))
    obtain ⟨b1, b2⟩ := hb p (List.mem_cons_self ..)
    exact ⟨mkG a b p fa fb b1 b2 :: gs, by rw [List.map_cons, h1, hx]; rfl, by rw [List.map_cons, h2]; rfl⟩

/-- The better of two: the first stands till a better one comes. -/
def stepG (cf : Gp → Gp → Int) (m x : Gp) : Gp := if cf x m < 0 then x else m

theorem cmpN_neg (a b : Nat) : cmpN a b < 0 ↔ a < b := by
  unfold cmpN
  by_cases h : a < b
  · simp [h]
  · by_cases h2 : b < a <;> simp [h, h2]

/-- Those that have so many. -/
def bigs (gs : List Gp) (n : Int) : List Gp := gs.filter fun z => !decide (((numG z).2 : Int) < n)

/-- What a choice among gaps picks is the least one, as a comparison has it, of those that are great enough. -/
def Picks (sel : List (Nat × Nat) → Nat → Option (Nat × Nat)) (cf : Gp → Gp → Int) : Prop :=
  ∀ (gs : List Gp) (n : Nat), (gs.map numG).Pairwise (fun a b => a.1 + a.2 < b.1) → sel (gs.map numG) n = match bigs gs n with | [] => none | x :: r => some (numG (r.foldl (stepG cf) x))

def stepO (cf : Gp → Gp → Int) : Option Gp → Gp → Option Gp
  | none, x => some x
  | some m, x => some (stepG cf m x)

theorem stepO_some (cf : Gp → Gp → Int) : ∀ (r : List Gp) (x : Gp), r.foldl (stepO cf) (some x) = some (r.foldl (stepG cf) x)
  | [], _ => rfl
  | y :: r, x => stepO_some cf r (stepG cf x y)

theorem tight_fold (n : Nat) : ∀ (gs : List Gp) (o : Option Gp), (gs.map numG).foldl (tighter n) (o.map numG) = ((bigs gs n).foldl (stepO byCount) o).map numG
  | [], _ => rfl
  | x :: gs, o => by
    unfold bigs
    rw [List.map_cons, List.foldl_cons, List.filter_cons]
    by_cases h : n ≤ (numG x).2
    · have h2 : (!decide (((numG x).2 : Int) < (n : Int))) = true := by simp; omega
      rw [if_pos h2, List.foldl_cons]
      have e : tighter n (o.map numG) (numG x) = (stepO byCount o x).map numG := by
        cases o with
        | none => show (if n ≤ (numG x).2 then some (numG x) else none) = _; rw [if_pos h]; rfl
        | some m =>
          show (if n ≤ (numG x).2 ∧ (numG x).2 < (numG m).2 then some (numG x) else some (numG m)) = some (numG (stepG byCount m x))
          unfold stepG byCount
          by_cases hl : (numG x).2 < (numG m).2
          · rw [if_pos ⟨h, hl⟩, if_pos ((cmpN_neg _ _).2 hl)]
          · rw [if_neg (fun hh => hl hh.2), if_neg (fun hh => hl ((cmpN_neg _ _).1 hh))]
      rw [e]
      exact tight_fold n gs (stepO byCount o x)
    · have h2 : ¬ (!decide (((numG x).2 : Int) < (n : Int))) = true := by simp; omega
      rw [if_neg h2]
      have e : tighter n (o.map numG) (numG x) = o.map numG := by
        cases o with
        | none => show (if n ≤ (numG x).2 then some (numG x) else none) = _; rw [if_neg h]; rfl
        | some m =>
          show (if n ≤ (numG x).2 ∧ (numG x).2 < (numG m).2 then some (numG x) else some (numG m)) = some (numG m)
          rw [if_neg (fun hh => h hh.1)]
      rw [e]
      exact tight_fold n gs o

theorem tight_picks : Picks tightGap byCount := by
  intro gs n _
  have h := tight_fold n gs none
  unfold tightGap
  rw [show (none : Option (Nat × Nat)) = (none : Option Gp).map numG from rfl, h]
  cases hb : bigs gs n with
  | nil => rfl
  | cons x r =>
    show ((r.foldl (stepO byCount) (some x)).map numG) = some (numG (r.foldl (stepG byCount) x))
    rw [stepO_some]
    rfl

theorem stepG_snoc (cf : Gp → Gp → Int) {r : List Gp} {t : Nat} {y : Gp} (x : Gp) (h : r[t]? = some y) : (r.take (t + 1)).foldl (stepG cf) x = stepG cf ((r.take t).foldl (stepG cf) x) y := by
  rw [List.take_add_one, h]
  show List.foldl _ _ (r.take t ++ [y]) = _
  rw [List.foldl_append]
  rfl

set_option maxRecDepth 100000 in
set_option maxHeartbeats 1600000 in
theorem Min_any (g : Nat) (cf : Gp → Gp → Int) (hc : Cmps g cf) (eg : ∀ args w, (callFunc g args).run Tryz.prog w = .ok (.enter g args) w) (b off cap m : Nat) (x0 : Gp) (r : List Gp) (w : World) (hm : (x0 :: r).length = m) (hlen : m ≤ 481)
    (hV : ∀ (j : Nat) (x : Gp), (x0 :: r)[j]? = some x → w.cell? ⟨b, off + j, none⟩ = some (encG x)) :
    Calls Tryz.prog 217 #[.slice (some ⟨b, off, none⟩) m cap, .func (.func g) #[] #[]] w fun e w' => e = .returned (encG (r.foldl (stepG cf) x0)) ∧ w = w' := by
  have c0 := hV 0 x0 rfl
  rw [Nat.add_zero] at c0
  have HV := Lib.hid hV
  have HC := Lib.hid hc
  have h1 : 1 ≤ m := by rw [← hm]; simp
  have HM := Lib.hid hm
  unfold encG at c0 ⊢
  clear hV hc hm
  go_enter Tryz.func217, Tryz.ntmps217
  go_wp2_with fail
  go_loop [5, 6] (fun mv tv => ∃ (i : Nat) (z : Gp), 1 ≤ i ∧ i ≤ m ∧ mv = .complex .f64 z.1.1.1 z.1.1.2 ∧ tv = .int .i64 (i : Int) ∧ Hid (z = (r.take (i - 1)).foldl (stepG cf) x0)) (fun _ tv => m - (intOf tv).toNat)
  case atStart => exact ⟨1, x0, Nat.le_refl _, h1, rfl, rfl, Lib.hid rfl⟩
  case round =>
    obtain ⟨i, z, i1, i2, rfl, rfl, HZ⟩ := hrel
    by_cases hlt : i < m
    · obtain ⟨x, hx⟩ : ∃ x, r[i - 1]? = some x := ⟨_, List.getElem?_eq_getElem (by have := HM.out; rw [List.length_cons] at this; omega)⟩
      have hcell := HV.out i x (by
        obtain ⟨k, rfl⟩ : ∃ k, i = k + 1 := ⟨i - 1, by omega⟩
        simpa using hx)
      have cC := HC.out x z w
      have HN : Hid (stepG cf z x = (r.take i).foldl (stepG cf) x0) := Lib.hid (by
        have h := stepG_snoc cf x0 hx
        rw [show i - 1 + 1 = i by omega, ← HZ.out] at h
        exact h.symm)
      unfold encG at hcell cC
      clear hx
      by_cases hn : cf x z < 0
      · have HE : Hid (stepG cf z x = x) := Lib.hid (by unfold stepG; rw [if_pos hn])
        have hi : (i : Int) < (m : Int) := by omega
        go_wp2_with (go_at_fn g; refine cC.mono ?_; rintro e w' ⟨rfl, rfl⟩)
        go_round
        case rel => exact ⟨i + 1, x, by omega, by omega, rfl, by go_num, Lib.hid (by rw [← HE.out, HN.out]; rfl)⟩
        case measure => simp [intOf]; omega
      · have HE : Hid (stepG cf z x = z) := Lib.hid (by unfold stepG; rw [if_neg hn])
        have hi : (i : Int) < (m : Int) := by omega
        go_wp2_with (go_at_fn g; refine cC.mono ?_; rintro e w' ⟨rfl, rfl⟩)
        go_round
        case rel => exact ⟨i + 1, z, by omega, by omega, rfl, by go_num, Lib.hid (by rw [← HE.out, HN.out]; rfl)⟩
        case measure => simp [intOf]; omega
    · have hi : ¬ (i : Int) < (m : Int) := by omega
      have HF : Hid (z = r.foldl (stepG cf) x0) := Lib.hid (by
        rw [HZ.out, List.take_of_length_le (by have := HM.out; rw [List.length_cons] at this; omega)])
      go_wp2_with fail
      go_ret
      exact ⟨by rw [← HF.out]; rfl, rfl⟩

set_option maxHeartbeats 800000 in
theorem small_any (z : Gp) (n : Int) (B : Nat) (W : World) (hc : W.cell? ⟨B, 0, none⟩ = some (.int .i64 n)) :
    FnGives Tryz.prog 215 #[.pointer (some ⟨B, 0, none⟩)] #[encG z] (.bool (decide (((numG z).2 : Int) < n))) W := by
  show Calls Tryz.prog 215 #[encG z, .pointer (some ⟨B, 0, none⟩)] W _
  have cc : ∀ w, Calls Tryz.prog 172 #[encG z] w fun e w' => e = .returned (.int .i64 ((numG z).2 : Int)) ∧ w' = w := fun w => (count_gp z w).mono (by rintro e w' ⟨rfl, rfl⟩; exact ⟨rfl, rfl⟩)
  generalize ((numG z).2 : Int) = k at cc ⊢
  unfold encG at cc ⊢
  go_enter Tryz.func215, Tryz.ntmps215
  go_wp2_with fail
  go_quiet (first | (go_at_call 172; refine Calls.quiet_of_same (cc _)))
  go_wp2_with fail
  go_ret
  exact ⟨rfl, _, rfl⟩

end Go.Proofs.YthklefelkdhblaaGreatDoor

