/-
  Said here: the blocks of a log in the words of package field's Text, Set, Get and Seal (textOut, setOut, getOut, sealOut). No conditions but those that each theorem names. Nothing of the program is read here. Proved here: what the landed log's small parts answer: numbered, start, told; End and Ends. The conditions stand at each theorem. Proved here: what slices.Index and Contains say of numbers, and the landed log's placed. The conditions stand at each theorem. Proved here: what the landed log's Begin and Begins answer. The conditions stand at each theorem. Proved here: what the landed log's ring says of a log, what its closure over the blocks answers, and bytes.Clone. The conditions stand at each theorem. Proved here: what bytes.Clone and the landed log's transaction answer. The conditions stand at each theorem.
-/
import Derived.Test.YtbnepjojfaeggaaA0
import Derived.Test.YtbnepjojfaeggaaA4
import Derived.Test.YtbnepjojfaeggaaA1
import Derived.Test.YtbnepjojfaeggaaA5
import Derived.Test.YtbnepjojfaeggaaA6
namespace Go.Proofs.Ytbnepjojfaeggaa
open Go.RowKit
set_option linter.unusedVariables false

def begT : List Int := [66, 69, 71, 78]
def endT : List Int := [68, 79, 78, 69]
/-- What start makes. -/
def startL (t : List Int) (seq c : Int) : List Int := setOut (setOut (textOut (List.replicate 64 0) 0 t) 4 4 seq) 8 1 c
/-- The first of the places are put. -/
def putT (L : List Int) (to : List Int) : Nat → List Int
  | 0 => L
  | k + 1 => setOut (putT L to k) (10 + 2 * (k : Int)) 2 (to.getD k 0)

theorem lay_endL (P cs : List Int) (k : Nat) (h : cs.length ≤ k) : lay (P ++ List.replicate k 0) P.length cs = (P ++ cs) ++ List.replicate (k - cs.length) 0 := by
  refine List.ext_getElem? (fun i => ?_)
  by_cases hi : i < P.length + k
  · have hl1 : (lay (P ++ List.replicate k 0) P.length cs).length = P.length + k := by rw [lay_length, List.length_append, List.length_replicate]
    have hl2 : ((P ++ cs) ++ List.replicate (k - cs.length) 0).length = P.length + k := by rw [List.length_append, List.length_append, List.length_replicate]; omega
    have e := lay_get cs (P ++ List.replicate k 0) P.length i (by rw [List.length_append, List.length_replicate]; omega)
    rw [List.getD_eq_getElem?_getD, List.getElem?_eq_getElem (by omega)] at e
    rw [List.getElem?_eq_getElem (by omega), List.getElem?_eq_getElem (by omega)]
    simp only [Option.getD_some] at e
    rw [e]
    split
    · next h1 =>
      rw [List.getElem_append_left (by rw [List.length_append]; omega), List.getElem_append_right h1.1, List.getD_eq_getElem?_getD, List.getElem?_eq_getElem (by omega)]
      rfl
    · next h1 =>
      by_cases hp : i < P.length
      · rw [List.getElem_append_left (by rw [List.length_append]; omega), List.getElem_append_left hp, List.getD_eq_getElem?_getD, List.getElem?_append_left hp, List.getElem?_eq_getElem hp]
        rfl
      · rw [List.getElem_append_right (by rw [List.length_append]; omega), List.getElem_replicate, List.getD_eq_getElem?_getD, List.getElem?_append_right (by omega), List.getElem?_replicate, if_pos (by omega)]
        rfl
  · rw [List.getElem?_eq_none (by rw [lay_length, List.length_append, List.length_replicate]; omega), List.getElem?_eq_none (by rw [List.length_append, List.length_append, List.length_replicate]; omega)]

/-- A number that fits, put behind what is there already. -/
theorem put_end (P : List Int) (m k : Nat) (n p : Int) (hp : p = (P.length : Int)) (hl : P.length + m = 64) (h1 : 1 ≤ k) (h2 : k ≤ 4) (h3 : P.length + k ≤ 60) (h4 : 0 ≤ n) (h5 : n < 256 ^ k) :
    setErr 64 p k n = 0 ∧ setOut (P ++ List.replicate m 0) p k n = (P ++ leB n k) ++ List.replicate (m - k) 0 := by
  subst hp
  have hL : (P ++ List.replicate m 0).length = 64 := by rw [List.length_append, List.length_replicate]; exact hl
  have he : setErr 64 (P.length : Int) k n = 0 := setErr_none h1 h2 h3 h4 h5
  refine ⟨he, ?_⟩
  rw [setOut_ok (by rw [hL]; exact he), Int.toNat_natCast, Int.toNat_natCast, putK_lay, lay_endL _ _ _ (by rw [leB_length]; omega), leB_length]

theorem leB_two {n : Int} (h0 : 0 ≤ n) (h : n < 256) : leB n 2 = leB n 1 ++ [0] := by
  show [n / 256 ^ 0 % 256, n / 256 ^ 1 % 256] = [n / 256 ^ 0 % 256, 0]
  have : n / 256 ^ 1 % 256 = 0 := by
    rw [show (256 : Int) ^ 1 = 256 from rfl]
    omega
  rw [this]

theorem text_four (t : List Int) (h : t.length = 4) : textErr 64 0 4 = 0 ∧ textOut (List.replicate 64 0) 0 t = t ++ List.replicate 60 0 := by
  refine ⟨by decide, ?_⟩
  unfold textOut
  rw [h, List.length_replicate, if_pos (by decide)]
  rfl

/-- Text and number, and the count. -/
theorem start_is (t : List Int) (ht : t.length = 4) {seq c : Int} (h1 : 1 ≤ seq ∧ seq ≤ 1073741824) (h2 : 1 ≤ c ∧ c ≤ 20) :
    setErr 64 4 4 seq = 0 ∧ setErr 64 8 1 c = 0 ∧ (textOut (List.replicate 64 0) 0 t).length = 64 ∧ (setOut (textOut (List.replicate 64 0) 0 t) 4 4 seq).length = 64 ∧ startL t seq c = (t ++ leB seq 4 ++ leB c 1) ++ List.replicate 55 0 := by
  have e0 := (text_four t ht).2
  have p1 := put_end t 60 4 seq 4 (by rw [ht]; rfl) (by omega) (by decide) (by decide) (by omega) (by omega) (by show seq < 4294967296; omega)
  have hl : (t ++ leB seq 4).length = 8 := by rw [List.length_append, leB_length, ht]
  have p2 := put_end (t ++ leB seq 4) 56 1 c 8 (by rw [hl]; rfl) (by omega) (by decide) (by decide) (by omega) (by omega) (by show c < 256; omega)
  unfold startL
  rw [e0]
  have e1 : setOut (t ++ List.replicate 60 0) 4 4 seq = (t ++ leB seq 4) ++ List.replicate 56 0 := p1.2
  rw [e1]
  refine ⟨p1.1, p2.1, by rw [List.length_append, List.length_replicate, ht], by rw [List.length_append, List.length_replicate, hl], p2.2⟩

theorem put_is {seq : Int} {to : List Int} (h1 : 1 ≤ seq ∧ seq ≤ 1073741824) (h2 : 1 ≤ to.length ∧ to.length ≤ 20) (h3 : ∀ t ∈ to, 0 ≤ t ∧ t < 480) :
    ∀ k, k ≤ to.length → putT (startL begT seq to.length) to k = (begT ++ leB seq 4 ++ leB to.length 2 ++ toL (to.take k)) ++ List.replicate (54 - 2 * k) 0 ∧ (putT (startL begT seq to.length) to k).length = 64 ∧ (k < to.length → setErr 64 (10 + 2 * (k : Int)) 2 (to.getD k 0) = 0)
  | 0, _ => by
    have hs := (start_is begT rfl h1 (c := to.length) ⟨by omega, by omega⟩).2.2.2.2
    have e : putT (startL begT seq to.length) to 0 = (begT ++ leB seq 4 ++ leB to.length 2 ++ toL (to.take 0)) ++ List.replicate (54 - 2 * 0) 0 := by
      show startL begT seq to.length = _
      rw [hs, leB_two (by omega) (by omega), List.take_zero]
      show _ = (begT ++ leB seq 4 ++ (leB to.length 1 ++ [0]) ++ []) ++ List.replicate 54 0
      rw [List.append_nil, show List.replicate 55 (0 : Int) = [0] ++ List.replicate 54 0 from rfl]
      simp only [List.append_assoc]
    refine ⟨e, ?_, fun hk => ?_⟩
    · rw [e, List.length_append, List.length_append, List.length_append, List.length_append, leB_length, leB_length, List.length_replicate]
      rfl
    · have hx := h3 (to.getD 0 0) (by rw [List.getD_eq_getElem?_getD, List.getElem?_eq_getElem hk]; exact List.getElem_mem _)
      exact setErr_none (p := 10) (size := 2) (by decide) (by decide) (by decide) hx.1 (by show _ < (65536 : Int); omega)
  | k + 1, hk => by
    obtain ⟨e0, l0, _⟩ := put_is h1 h2 h3 k (by omega)
    have hx := h3 (to.getD k 0) (by rw [List.getD_eq_getElem?_getD, List.getElem?_eq_getElem (by omega)]; exact List.getElem_mem _)
    have hl : (begT ++ leB seq 4 ++ leB to.length 2 ++ toL (to.take k)).length = 10 + 2 * k := by
      rw [List.length_append, List.length_append, List.length_append, leB_length, leB_length, toL_length, List.length_take]
      show 4 + 4 + 2 + _ = _
      omega
    have p := put_end (begT ++ leB seq 4 ++ leB to.length 2 ++ toL (to.take k)) (54 - 2 * k) 2 (to.getD k 0) (10 + 2 * (k : Int)) (by rw [hl]; omega) (by omega) (by decide) (by decide) (by omega) hx.1 (by show _ < (65536 : Int); omega)
    have ht : toL (to.take (k + 1)) = toL (to.take k) ++ leB (to.getD k 0) 2 := by
      rw [List.take_add_one, List.getElem?_eq_getElem (by omega)]
      unfold toL
      rw [List.flatMap_append, List.getD_eq_getElem?_getD, List.getElem?_eq_getElem (by omega)]
      simp
    have e : putT (startL begT seq to.length) to (k + 1) = (begT ++ leB seq 4 ++ leB to.length 2 ++ toL (to.take (k + 1))) ++ List.replicate (54 - 2 * (k + 1)) 0 := by
      show setOut (putT (startL begT seq to.length) to k) (10 + 2 * (k : Int)) 2 (to.getD k 0) = _
      rw [e0]
      have := p.2
      rw [show ((2 : Nat) : Int) = 2 from rfl] at this
      rw [this, ht, show 54 - 2 * (k + 1) = 54 - 2 * k - 2 by omega]
      simp only [List.append_assoc]
    refine ⟨e, ?_, fun hk2 => ?_⟩
    · rw [e, ht, List.length_append, List.length_replicate, ← List.append_assoc, List.length_append, hl, leB_length]
      omega
    · have hx := h3 (to.getD (k + 1) 0) (by rw [List.getD_eq_getElem?_getD, List.getElem?_eq_getElem hk2]; exact List.getElem_mem _)
      have := setErr_none (p := 10 + 2 * (k + 1)) (size := 2) (by decide) (by decide) (by omega) hx.1 (show to.getD (k + 1) 0 < (65536 : Int) by omega)
      rw [show ((10 + 2 * (k + 1) : Nat) : Int) = 10 + 2 * ((k + 1 : Nat) : Int) by omega] at this
      exact this

theorem seal_zeros (P : List Int) (m : Nat) (h : P.length + m = 64) (hP : P.length ≤ 60) : sealOut sumS (P ++ List.replicate m 0) = sealOf sumS P := by
  have hl : (P ++ List.replicate m 0).length = 64 := by rw [List.length_append, List.length_replicate]; exact h
  unfold sealOut
  rw [if_pos hl]
  refine sealed_of hP hl (fun k hk => ?_)
  rw [List.getD_eq_getElem?_getD, List.getD_eq_getElem?_getD]
  by_cases hk2 : k < P.length
  · rw [List.getElem?_append_left hk2]
  · rw [List.getElem?_append_right (by omega), List.getElem?_replicate, if_pos (by omega), List.getElem?_eq_none (show P.length ≤ k by omega)]
    rfl

/-- A sound descriptor's block, and a last block. -/
theorem made_beg {d : PDesc} (h : soundD d = true) : sealOut sumS (putT (startL begT d.seq d.to.length) d.to d.to.length) = begB d := by
  obtain ⟨⟨h1, h2, h3, h4⟩, h5, _⟩ := soundD_parts h
  rw [(put_is ⟨h3, h4⟩ ⟨h1, h2⟩ h5 d.to.length (Nat.le_refl _)).1, List.take_length]
  show sealOut sumS (begL d ++ _) = _
  exact seal_zeros _ _ (by rw [begL_length]; omega) (by rw [begL_length]; omega)
theorem made_end {seq c : Int} (h : okEnd seq c = true) : sealOut sumS (startL endT seq c) = endB seq c := by
  have h' : 1 ≤ seq ∧ seq ≤ 1073741824 ∧ 1 ≤ c ∧ c ≤ 20 := of_decide_eq_true h
  rw [(start_is endT rfl ⟨h'.1, h'.2.1⟩ h'.2.2).2.2.2.2]
  show sealOut sumS (endL seq c ++ _) = _
  exact seal_zeros _ _ (by rw [endL_length]) (by rw [endL_length]; decide)

/-! ### What reading makes of any bytes -/

def toG (zs : List Int) (i : Nat) : List Int := (List.range i).map fun (k : Nat) => getOut zs (10 + 2 * (k : Int)) 2
def getT (zs : List Int) : PDesc := ⟨getOut zs 4 4, toG zs (getOut zs 8 1).toNat⟩

theorem toG_length (zs : List Int) (i : Nat) : (toG zs i).length = i := by unfold toG; rw [List.length_map, List.length_range]

theorem got_ends {zs : List Int} (h : zs.length = 64) : getOut zs 4 4 = leN zs 4 4 ∧ getOut zs 8 1 = zs.getD 8 0 := by
  refine ⟨getOut_64 (p := 4) (k := 4) h (by decide) (by decide) (by decide), ?_⟩
  rw [← leN1]
  exact getOut_64 (p := 8) (k := 1) h (by decide) (by decide) (by decide)
theorem got_beg {zs : List Int} (h : zs.length = 64) (hc : zs.getD 8 0 ≤ 20) : getT zs = readD zs := by
  obtain ⟨e1, e2⟩ := got_ends h
  unfold getT readD
  rw [e1, e2]
  congr 1
  unfold toG
  apply List.map_congr_left
  intro i hi
  have hi := List.mem_range.1 hi
  rw [show (10 + 2 * (i : Int)) = ((10 + 2 * i : Nat) : Int) by omega]
  exact getOut_64 (p := 10 + 2 * i) (k := 2) h (by decide) (by decide) (by omega)

theorem getC_in {zs : List Int} (hz : ∀ z ∈ zs, 0 ≤ z ∧ z ≤ 255) : 0 ≤ getOut zs 8 1 ∧ getOut zs 8 1 ≤ 255 := by
  by_cases h : zs.length = 64
  · rw [(got_ends h).2, List.getD_eq_getElem?_getD, List.getElem?_eq_getElem (by omega)]
    exact hz _ (List.getElem_mem _)
  · rw [getOut_no h]; decide
theorem getS_in {zs : List Int} (hz : ∀ z ∈ zs, 0 ≤ z ∧ z ≤ 255) (p : Int) (k : Nat) (hk : k ≤ 4) : 0 ≤ getOut zs p k ∧ getOut zs p k < 4294967296 := by
  unfold getOut
  split
  · next h =>
    have ho := fErr_ok h
    have := leN_four hz p.toNat k (by omega) hk
    rw [Int.toNat_natCast]
    exact this
  · decide

/-- The three ways of reading. -/
theorem beg_ways (zs : List Int) (hz : ∀ z ∈ zs, 0 ≤ z ∧ z ≤ 255) : (soundD (getT zs) = true ∧ begB (getT zs) = zs ∧ getBeg zs = getT zs ∧ getBegErr zs = 0) ∨ (soundD (getT zs) = true ∧ begB (getT zs) ≠ zs ∧ getBeg zs = ⟨0, []⟩ ∧ getBegErr zs = 2) ∨ (soundD (getT zs) = false ∧ getBeg zs = ⟨0, []⟩ ∧ getBegErr zs = 2) := by
  by_cases h : zs.length = 64 ∧ zs.getD 8 0 ≤ 20
  · rw [got_beg h.1 h.2]
    unfold getBeg getBegErr isBeg
    rw [decide_eq_true h, Bool.true_and]
    cases hs : soundD (readD zs) with
    | false => right; right; exact ⟨rfl, rfl, rfl⟩
    | true =>
      by_cases he : begB (readD zs) = zs
      · left; rw [decide_eq_true he]; exact ⟨rfl, he, rfl, rfl⟩
      · right; left; rw [decide_eq_false he]; exact ⟨rfl, he, rfl, rfl⟩
  · right; right
    have hi : isBeg zs = false := by unfold isBeg; rw [decide_eq_false h]; rfl
    refine ⟨?_, by unfold getBeg; rw [hi]; rfl, by unfold getBegErr; rw [hi]; rfl⟩
    cases hs : soundD (getT zs) with
    | false => rfl
    | true =>
      have hp := (soundD_parts hs).1
      have hl : (getT zs).to.length = (getOut zs 8 1).toNat := toG_length _ _
      by_cases h64 : zs.length = 64
      · exact absurd ⟨h64, by rw [← (got_ends h64).2]; omega⟩ h
      · rw [getOut_no h64] at hl
        rw [hl] at hp
        exact absurd hp.1 (by decide)
theorem end_ways (zs : List Int) : (okEnd (getOut zs 4 4) (getOut zs 8 1) = true ∧ endB (getOut zs 4 4) (getOut zs 8 1) = zs ∧ getEndSeq zs = getOut zs 4 4 ∧ getEndCount zs = getOut zs 8 1 ∧ getEndErr zs = 0) ∨ (okEnd (getOut zs 4 4) (getOut zs 8 1) = true ∧ endB (getOut zs 4 4) (getOut zs 8 1) ≠ zs ∧ getEndSeq zs = 0 ∧ getEndCount zs = 0 ∧ getEndErr zs = 2) ∨
    (okEnd (getOut zs 4 4) (getOut zs 8 1) = false ∧ getEndSeq zs = 0 ∧ getEndCount zs = 0 ∧ getEndErr zs = 2) := by
  by_cases h : zs.length = 64
  · rw [(got_ends h).1, (got_ends h).2]
    unfold getEndSeq getEndCount getEndErr isEnd
    rw [decide_eq_true h, Bool.true_and]
    cases hs : okEnd (leN zs 4 4) (zs.getD 8 0) with
    | false => right; right; exact ⟨rfl, rfl, rfl, rfl⟩
    | true =>
      by_cases he : endB (leN zs 4 4) (zs.getD 8 0) = zs
      · left; rw [decide_eq_true he]; exact ⟨rfl, he, rfl, rfl, rfl⟩
      · right; left; rw [decide_eq_false he]; exact ⟨rfl, he, rfl, rfl, rfl⟩
  · right; right
    have hi : isEnd zs = false := by unfold isEnd; rw [decide_eq_false h]; rfl
    unfold getEndSeq getEndCount getEndErr
    rw [hi, getOut_no h, getOut_no h]
    exact ⟨by decide, rfl, rfl, rfl⟩

theorem begB_bytes (d : PDesc) : ∀ z ∈ begB d, 0 ≤ z ∧ z ≤ 255 := sealOf_bytes (begL_bytes d)
theorem endB_bytes (s c : Int) : ∀ z ∈ endB s c, 0 ≤ z ∧ z ≤ 255 := sealOf_bytes (endL_bytes s c)

end Go.Proofs.Ytbnepjojfaeggaa

namespace Go.Proofs.Ytbnepjojfaeggaa
open Go.RowKit
set_option linter.unusedVariables false
set_option linter.unusedSimpArgs false

theorem numbered_any (s c : Int) (w : World) : Calls Try.prog 65 #[.int .i64 s, .int .i64 c] w fun e w' => e = .returned (.bool (okEnd s c)) ∧ w = w' := by
  by_cases h1 : 1 ≤ s
  · by_cases h2 : s ≤ 1073741824
    · by_cases h3 : 1 ≤ c
      · by_cases h4 : c ≤ 20
        · have HE : Hid (okEnd s c = true) := Lib.hid (decide_eq_true ⟨h1, h2, h3, h4⟩)
          go_enter Try.func65, Try.ntmps65
          go_wp2
          go_ret
          exact ⟨by rw [HE.out]; rfl, rfl⟩
        · have HE : Hid (okEnd s c = false) := Lib.hid (decide_eq_false (fun h => h4 h.2.2.2))
          go_enter Try.func65, Try.ntmps65
          go_wp2
          go_ret
          exact ⟨by rw [HE.out]; rfl, rfl⟩
      · have HE : Hid (okEnd s c = false) := Lib.hid (decide_eq_false (fun h => h3 h.2.2.1))
        go_enter Try.func65, Try.ntmps65
        go_wp2
        go_ret
        exact ⟨by rw [HE.out]; rfl, rfl⟩
    · have HE : Hid (okEnd s c = false) := Lib.hid (decide_eq_false (fun h => h2 h.2.1))
      go_enter Try.func65, Try.ntmps65
      go_wp2
      go_ret
      exact ⟨by rw [HE.out]; rfl, rfl⟩
  · have HE : Hid (okEnd s c = false) := Lib.hid (decide_eq_false (fun h => h1 h.1))
    go_enter Try.func65, Try.ntmps65
    go_wp2
    go_ret
    exact ⟨by rw [HE.out]; rfl, rfl⟩

theorem told_any (ao : Option Addr) (len cap : Nat) (zs : List Int) (w : World) (hA : Arg w ao len cap zs) : Calls Try.prog 80 #[.slice ao len cap] w fun e w' => e = .returned (.tuple #[.int .i64 (getOut zs 4 4), .int .i64 (getOut zs 8 1)]) ∧ w = w' := by
  have c1 := fGet_any ao len cap zs 4 4 w hA (by decide) (by decide)
  have c2 := fGet_any ao len cap zs 8 1 w hA (by decide) (by decide)
  clear hA
  generalize getOut zs 4 4 = x at *
  generalize getOut zs 8 1 = y at *
  generalize fErr len 4 4 = e1 at *
  generalize fErr len 8 1 = e2 at *
  go_enter Try.func80, Try.ntmps80
  go_wp2_with (first | (go_at_call 81; refine c1.mono ?_; rintro e w' ⟨rfl, rfl⟩; clear c1) | (go_at_call 81; refine c2.mono ?_; rintro e w' ⟨rfl, rfl⟩))
  go_ret2
  exact ⟨rfl, rfl⟩

set_option maxHeartbeats 1600000 in
theorem start_any (s : ByteArray) (q c : Int) (w : World) (hs : s.size ≤ 60) (hq : i64w q) (hc : i64w c) : Calls Try.prog 67 #[.string s, .int .i64 q, .int .i64 c] w (Gives w.heap.size w (startL (bytesOf s) q c)) := by
  have hmk := run_make_bytes w 64 (by decide)
  rw [show ((64 : Nat) : Int) = 64 from rfl] at hmk
  have hA0 := made_arg w 64 (by decide)
  have hB0 : Below w.heap.size w (w.alloc (.cells (madeCells #[.int .u8 0] 64) 5)) := (Below.refl _ _).alloc (Nat.le_refl _) _
  have HQ := Lib.hid hq
  have HC := Lib.hid hc
  generalize hw1 : w.alloc (.cells (madeCells #[.int .u8 0] 64) 5) = w1 at *
  have HW1 := Lib.hid hw1
  have HB0 := Lib.hid hB0
  have cT := fText_any _ 64 64 (List.replicate 64 0) 0 s w1 hA0 (by decide) (by omega)
  have HST : Hid (startL (bytesOf s) q c = setOut (setOut (textOut (List.replicate 64 0) 0 (bytesOf s)) 4 4 q) 8 1 c) := Lib.hid rfl
  rw [HST.out]
  clear hw1 hB0 hA0 hq hc
  generalize textOut (List.replicate 64 0) 0 (bytesOf s) = L1 at *
  go_enter Try.func67, Try.ntmps67
  go_wp2_with (first
    | (go_at_call 79; refine (fSet_any _ _ _ _ 8 1 c w3 hA3 (by decide) (by decide) HC.out).mono ?_; rintro e w4 ⟨v4, rfl, hf4, hb4⟩; have HF4 := Lib.hid hf4; have HB4 := Lib.hid hb4; clear hf4 hb4)
    | (go_at_call 79; refine (fSet_any _ _ _ _ 4 4 q w2 hA2 (by decide) (by decide) HQ.out).mono ?_; rintro e w3 ⟨v3, rfl, hf3, hb3⟩; obtain ⟨ao3, c3, rfl, hA3⟩ := fresh_form hf3; have HB3 := Lib.hid hb3; clear hf3 hb3)
    | (go_at_call 84; refine cT.mono ?_; rintro e w2 ⟨v2, rfl, hf2, hb2⟩; obtain ⟨ao2, c2, rfl, hA2⟩ := fresh_form hf2; have HB2 := Lib.hid hb2; clear hf2 hb2))
  go_ret
  have b2 := HB0.out.trans (HB2.out.mono HB0.out.size)
  have b3 := b2.trans (HB3.out.mono b2.size)
  exact ⟨v4, rfl, HF4.out.mono b3.size, b3.trans (HB4.out.mono b3.size)⟩

set_option maxHeartbeats 1600000 in
theorem lEnd_any (q c : Int) (w : World) (hq : i64w q) (hc : i64w c) : Calls Try.prog 50 #[.int .i64 q, .int .i64 c] w (Handed w.heap.size w (endOut q c) (endErr q c)) := by
  have cN := numbered_any q c w
  cases hok : okEnd q c with
  | false =>
    have HE : Hid (endOut q c = [] ∧ endErr q c = 2) := Lib.hid (by unfold endOut endErr; rw [hok]; exact ⟨rfl, rfl⟩)
    rw [hok] at cN
    clear hok
    go_enter Try.func50, Try.ntmps50
    go_wp2_with (go_at_call 65; refine cN.mono ?_; rintro e w' ⟨rfl, rfl⟩)
    go_ret2
    exact ⟨.slice none 0 0, by rw [HE.out.2]; rfl, by rw [HE.out.1]; exact Fresh.nil _ _, Below.refl _ _⟩
  | true =>
    have HE : Hid (endOut q c = sealOut sumS (startL endT q c) ∧ endErr q c = 0) := Lib.hid (by rw [made_end hok]; unfold endOut endErr; rw [hok]; exact ⟨rfl, rfl⟩)
    have cS := start_any ⟨#[68, 79, 78, 69]⟩ q c w (by decide) hq hc
    rw [show bytesOf ⟨#[68, 79, 78, 69]⟩ = endT from rfl] at cS
    rw [hok] at cN
    clear hok
    generalize startL endT q c = L at *
    go_enter Try.func50, Try.ntmps50
    go_wp2_with (first
      | (go_at_call 66; refine (fSeal_any _ _ _ _ w3 hA3).mono ?_; rintro e w4 ⟨v4, rfl, hf4, hb4⟩; have HF4 := Lib.hid hf4; have HB4 := Lib.hid hb4; clear hf4 hb4)
      | (go_at_call 67; refine cS.mono ?_; rintro e w3 ⟨v3, rfl, hf3, hb3⟩; obtain ⟨ao3, c3, rfl, hA3⟩ := fresh_form hf3; have HB3 := Lib.hid hb3; clear hf3 hb3)
      | (go_at_call 65; refine cN.mono ?_; rintro e w' ⟨rfl, rfl⟩))
    go_ret2
    exact ⟨v4, by rw [HE.out.2]; rfl, by rw [HE.out.1]; exact HF4.out.mono HB3.out.size, HB3.out.trans (HB4.out.mono HB3.out.size)⟩

set_option maxHeartbeats 3200000 in
theorem lEnds_any (ao : Option Addr) (len cap : Nat) (zs : List Int) (w : World) (hA : Arg w ao len cap zs) : Calls Try.prog 87 #[.slice ao len cap] w fun e w' => e = .returned (.tuple #[.int .i64 (getEndSeq zs), .int .i64 (getEndCount zs), .int .i64 (getEndErr zs)]) ∧ Below w.heap.size w w' := by
  have HA := Lib.hid hA
  have cT := told_any ao len cap zs w hA
  have hz := hA.1.2.2.1
  have hq : i64w (getOut zs 4 4) := by have := getS_in hz 4 4 (by decide); unfold i64w; rw [show ((4 : Nat) : Int) = 4 from rfl] at this; omega
  have hc : i64w (getOut zs 8 1) := by have := getC_in hz; unfold i64w; omega
  have cE := lEnd_any (getOut zs 4 4) (getOut zs 8 1) w hq hc
  have hw := end_ways zs
  clear hA hz hq hc
  generalize getOut zs 4 4 = q at *
  generalize getOut zs 8 1 = c at *
  rcases hw with ⟨h1, h2, h3, h4, h5⟩ | ⟨h1, h2, h3, h4, h5⟩ | ⟨h1, h3, h4, h5⟩
  · have HD : Hid (decide (endB q c = zs) = true) := Lib.hid (decide_eq_true h2)
    unfold endOut endErr at cE
    rw [if_pos h1, if_pos h1] at cE
    rw [h3, h4, h5]
    clear h1 h2 h3 h4 h5
    generalize endB q c = O at *
    go_enter Try.func87, Try.ntmps87
    go_wp2_with (first
      | (go_at_call 70; refine (bytesEq_any a5 ao _ c5 len cap O zs _ A5.out.1 (HA.out.later B5.out).1).mono ?_; rintro e w6 ⟨rfl, rfl⟩; rw [HD.out])
      | (go_at_call 50; refine cE.mono ?_; rintro e w5 ⟨v5, rfl, hf5, hb5⟩; obtain ⟨a5, c5, rfl, hA5⟩ := fresh_form hf5; have A5 := Lib.hid hA5; have B5 := Lib.hid hb5; clear hf5 hb5 hA5)
      | (go_at_call 80; refine cT.mono ?_; rintro e w' ⟨rfl, rfl⟩))
    go_ret3
    exact ⟨rfl, B5.out⟩
  · have HD : Hid (decide (endB q c = zs) = false) := Lib.hid (decide_eq_false h2)
    unfold endOut endErr at cE
    rw [if_pos h1, if_pos h1] at cE
    rw [h3, h4, h5]
    clear h1 h2 h3 h4 h5
    generalize endB q c = O at *
    go_enter Try.func87, Try.ntmps87
    go_wp2_with (first
      | (go_at_call 70; refine (bytesEq_any a5 ao _ c5 len cap O zs _ A5.out.1 (HA.out.later B5.out).1).mono ?_; rintro e w6 ⟨rfl, rfl⟩; rw [HD.out])
      | (go_at_call 50; refine cE.mono ?_; rintro e w5 ⟨v5, rfl, hf5, hb5⟩; obtain ⟨a5, c5, rfl, hA5⟩ := fresh_form hf5; have A5 := Lib.hid hA5; have B5 := Lib.hid hb5; clear hf5 hb5 hA5)
      | (go_at_call 80; refine cT.mono ?_; rintro e w' ⟨rfl, rfl⟩))
    go_ret3
    exact ⟨rfl, B5.out⟩
  · unfold endOut endErr at cE
    rw [if_neg (by rw [h1]; decide), if_neg (by rw [h1]; decide)] at cE
    rw [h3, h4, h5]
    clear h1 h3 h4 h5
    go_enter Try.func87, Try.ntmps87
    go_wp2_with (first
      | (go_at_call 50; refine cE.mono ?_; rintro e w5 ⟨v5, rfl, hf5, hb5⟩; obtain ⟨a5, c5, rfl, hA5⟩ := fresh_form hf5; have A5 := Lib.hid hA5; have B5 := Lib.hid hb5; clear hf5 hb5 hA5)
      | (go_at_call 80; refine cT.mono ?_; rintro e w' ⟨rfl, rfl⟩))
    go_ret3
    exact ⟨rfl, B5.out⟩

end Go.Proofs.Ytbnepjojfaeggaa

namespace Go.Proofs.Ytbnepjojfaeggaa
open Go.RowKit
set_option linter.unusedVariables false
set_option linter.unusedSimpArgs false

/-- An index of what was found, or -1. -/
def FoundI (b : Bool) (k : Int) : Prop := (b = true → 0 ≤ k) ∧ (b = false → k = -1)

set_option maxRecDepth 100000 in
set_option maxHeartbeats 800000 in
theorem indexI_any {w : World} {ao : Option Addr} {len cap : Nat} {zs : List Int} (y : Int) (hA : IArg w ao len cap zs) :
    Calls Try.prog 96 #[.slice ao len cap, .int .i64 y] w fun e w' => (∃ k : Int, e = .returned (.int .i64 k) ∧ FoundI (decide (y ∈ zs)) k) ∧ w = w' := by
  have HA := Lib.hid hA
  have hlen := hA.big
  have HN := Lib.hid hA.len
  clear hA
  go_enter Try.func96, Try.ntmps96
  go_wp2_with fail
  go_loop [8] (fun iv => ∃ i : Nat, iv = .int .i64 (i : Int) ∧ i ≤ len ∧ Hid (¬ y ∈ zs.take i)) (fun iv => len - (intOf iv).toNat)
  case atStart => exact ⟨0, rfl, Nat.zero_le _, Lib.hid (by simp)⟩
  case round =>
    obtain ⟨i, rfl, hi, HP⟩ := hrel
    by_cases hlt : i < len
    · obtain ⟨b, off, x, rfl, hx, d1, _⟩ := HA.out.at hlt
      have i1 : (i : Int) < (len : Int) := by omega
      have HX := Lib.hid hx
      have i0 : (0 : Int) ≤ (i : Int) := by omega
      clear hx
      by_cases hxy : y = x
      · have HP2 : Hid (y ∈ zs) := Lib.hid (by rw [hxy]; exact List.mem_of_getElem? HX.out)
        have b1 : (y == x) = true := by simpa using hxy
        clear hxy
        go_wp2_with fail
        go_ret
        exact ⟨⟨_, rfl, fun _ => i0, fun h => absurd HP2.out (of_decide_eq_false h)⟩, rfl⟩
      · have HP2 : Hid (¬ y ∈ zs.take (i + 1)) := Lib.hid (by
          rw [List.take_add_one, HX.out, List.mem_append]
          rintro (h | h)
          · exact HP.out h
          · simp at h; exact hxy h)
        have b1 : (y == x) = false := by simpa using hxy
        clear hxy
        go_wp2_with fail
        go_round
        case rel => exact ⟨i + 1, by go_num, by omega, HP2⟩
        case measure => simp [intOf]; omega
    · obtain rfl : i = len := by omega
      have HP2 : Hid (¬ y ∈ zs) := Lib.hid (by have := HP.out; rwa [List.take_of_length_le (by rw [HN.out]; exact Nat.le_refl _)] at this)
      go_wp2_with fail
      go_ret
      exact ⟨⟨_, rfl, And.intro (fun h => absurd (of_decide_eq_true h) HP2.out) (fun _ => rfl)⟩, rfl⟩

set_option maxHeartbeats 400000 in
theorem containsI_any {w : World} {ao : Option Addr} {len cap : Nat} {zs : List Int} (y : Int) (hA : IArg w ao len cap zs) :
    Calls Try.prog 90 #[.slice ao len cap, .int .i64 y] w fun e w' => e = .returned (.bool (decide (y ∈ zs))) ∧ w = w' := by
  have c := indexI_any y hA
  clear hA
  by_cases hd : y ∈ zs
  · rw [decide_eq_true hd] at c ⊢
    go_enter Try.func90, Try.ntmps90
    go_wp2_with (go_at_call 96; refine c.mono ?_; rintro e w' ⟨⟨k, rfl, hk⟩, rfl⟩; replace hk := hk.1 rfl)
    go_ret
    exact ⟨rfl, rfl⟩
  · rw [decide_eq_false hd] at c ⊢
    go_enter Try.func90, Try.ntmps90
    go_wp2_with (go_at_call 96; refine c.mono ?_; rintro e w' ⟨⟨k, rfl, hk⟩, rfl⟩; obtain rfl := hk.2 rfl)
    go_ret
    exact ⟨rfl, rfl⟩

/-- May a transaction's blocks belong there? -/
def placedB (to : List Int) : Bool := to.all homeB && decide to.Nodup
theorem sound_parts (q : Int) (to : List Int) : soundD ⟨q, to⟩ = (okEnd q to.length && placedB to) := by
  have e : decide (1 ≤ to.length ∧ to.length ≤ 20 ∧ 1 ≤ q ∧ q ≤ 1073741824) = okEnd q to.length := by
    unfold okEnd
    by_cases h : 1 ≤ to.length ∧ to.length ≤ 20 ∧ 1 ≤ q ∧ q ≤ 1073741824
    · rw [decide_eq_true h, decide_eq_true (by omega)]
    · rw [decide_eq_false h, decide_eq_false (by omega)]
  unfold soundD placedB
  rw [← e]

def okTake (to : List Int) (i : Nat) : Prop := (to.take i).all homeB = true ∧ (to.take i).Nodup
theorem okTake_next {to : List Int} {i : Nat} {x : Int} (h : okTake to i) (hx : to[i]? = some x) (hh : homeB x = true) (hn : ¬ x ∈ to.take i) : okTake to (i + 1) := by
  unfold okTake
  rw [List.take_add_one, hx]
  refine ⟨by rw [List.all_append, h.1]; simp [hh], ?_⟩
  rw [List.nodup_append]
  exact ⟨h.2, by simp, fun a ha b hb => by simp at hb; subst hb; exact fun e => hn (e ▸ ha)⟩
theorem bad_home {to : List Int} {i : Nat} {x : Int} (hx : to[i]? = some x) (hh : homeB x = false) : placedB to = false := by
  unfold placedB
  have : to.all homeB = false := by
    cases h : to.all homeB with
    | false => rfl
    | true => have := List.all_eq_true.1 h x (List.mem_of_getElem? hx); rw [hh] at this; cases this
  rw [this]
  rfl
theorem bad_twice {to : List Int} {i : Nat} {x : Int} (hx : to[i]? = some x) (hn : x ∈ to.take i) : placedB to = false := by
  unfold placedB
  have : ¬ to.Nodup := fun h => by
    obtain ⟨hi, hx⟩ := List.getElem?_eq_some_iff.1 hx
    rw [← List.take_append_drop i to, List.nodup_append] at h
    exact h.2.2 x hn x (by rw [List.drop_eq_getElem_cons hi, hx]; exact List.mem_cons_self ..) rfl
  rw [decide_eq_false this, Bool.and_false]

set_option maxRecDepth 100000 in
set_option maxHeartbeats 3200000 in
theorem placed_any {w : World} {ao : Option Addr} {n cap : Nat} {to : List Int} (hA : IArg w ao n cap to) : Calls Try.prog 78 #[.slice ao n cap] w fun e w' => e = .returned (.bool (placedB to)) ∧ w = w' := by
  have HA := Lib.hid hA
  have hlen := hA.big
  have hcap := hA.2.2.2
  have HN := Lib.hid hA.len
  obtain ⟨P, hP⟩ : ∃ P, placedB to = P := ⟨_, rfl⟩
  have HP := Lib.hid hP
  rw [hP]
  clear hA hP
  go_enter Try.func78, Try.ntmps78
  go_wp2_with fail
  go_loop [8] (fun iv => ∃ i : Nat, iv = .int .i64 (i : Int) ∧ i ≤ n ∧ Hid (okTake to i)) (fun iv => n - (intOf iv).toNat)
  case atStart => exact ⟨0, rfl, Nat.zero_le _, Lib.hid ⟨rfl, by simp⟩⟩
  case round =>
    obtain ⟨i, rfl, hi, HK⟩ := hrel
    by_cases hlt : i < n
    · obtain ⟨b, off, x, rfl, hx, d1, _⟩ := HA.out.at hlt
      have i1 : (i : Int) < (n : Int) := by omega
      have i0 : (0 : Int) ≤ (i : Int) := by omega
      have i2 : (i : Int) ≤ (cap : Int) := by omega
      have HX := Lib.hid hx
      have c1 := containsI_any x (HA.out.take (k := i) (by omega))
      clear hx
      by_cases hh : homeB x = true
      · have HH := Lib.hid hh
        have hx2 : 0 ≤ x ∧ x < 480 ∧ x ≠ 1 ∧ (x < 19 ∨ 59 ≤ x) := of_decide_eq_true hh
        obtain ⟨x1, x2, x3, x4⟩ := hx2
        have b1 : (x == 1) = false := by simpa using x3
        clear hh
        rcases x4 with x4 | x4 <;> by_cases hm : x ∈ to.take i
        · rw [decide_eq_true hm] at c1
          have HF := Lib.hid (bad_twice HX.out hm)
          clear hm
          go_wp2_with (go_at_call 90; refine c1.mono ?_; rintro e w3 ⟨rfl, rfl⟩)
          go_ret
          exact ⟨by rw [← HP.out, HF.out]; rfl, rfl⟩
        · rw [decide_eq_false hm] at c1
          have HK2 := Lib.hid (okTake_next HK.out HX.out HH.out hm)
          clear hm
          go_wp2_with (go_at_call 90; refine c1.mono ?_; rintro e w3 ⟨rfl, rfl⟩)
          go_round
          case rel => exact ⟨i + 1, by go_num, by omega, HK2⟩
          case measure => simp [intOf]; omega
        · have x5 : 19 ≤ x := by omega
          have x6 : ¬ x < 59 := by omega
          rw [decide_eq_true hm] at c1
          have HF := Lib.hid (bad_twice HX.out hm)
          clear hm
          go_wp2_with (go_at_call 90; refine c1.mono ?_; rintro e w3 ⟨rfl, rfl⟩)
          go_ret
          exact ⟨by rw [← HP.out, HF.out]; rfl, rfl⟩
        · have x5 : 19 ≤ x := by omega
          have x6 : ¬ x < 59 := by omega
          rw [decide_eq_false hm] at c1
          have HK2 := Lib.hid (okTake_next HK.out HX.out HH.out hm)
          clear hm
          go_wp2_with (go_at_call 90; refine c1.mono ?_; rintro e w3 ⟨rfl, rfl⟩)
          go_round
          case rel => exact ⟨i + 1, by go_num, by omega, HK2⟩
          case measure => simp [intOf]; omega
      · rw [Bool.not_eq_true] at hh
        have HF := Lib.hid (bad_home HX.out hh)
        have hx2 : ¬ (0 ≤ x ∧ x < 480 ∧ x ≠ 1 ∧ (x < 19 ∨ 59 ≤ x)) := of_decide_eq_false hh
        have hx3 : (19 ≤ x ∧ x < 59) ∨ (x < 0 ∧ x < 19) ∨ (480 ≤ x ∧ 19 ≤ x ∧ 59 ≤ x) ∨ x = 1 := by omega
        clear hx2 hh c1
        rcases hx3 with ⟨x1, x2⟩ | ⟨x1, x2⟩ | ⟨x1, x2, x3⟩ | rfl
        · have b1 : (x == 1) = false := by simp; omega
          go_wp2_with fail
          go_ret
          exact ⟨by rw [← HP.out, HF.out]; rfl, rfl⟩
        · go_wp2_with fail
          go_ret
          exact ⟨by rw [← HP.out, HF.out]; rfl, rfl⟩
        · have b1 : (x == 1) = false := by simp; omega
          have x6 : ¬ x < 59 := by omega
          go_wp2_with fail
          go_ret
          exact ⟨by rw [← HP.out, HF.out]; rfl, rfl⟩
        · go_wp2_with fail
          go_ret
          exact ⟨by rw [← HP.out, HF.out]; rfl, rfl⟩
    · obtain rfl : i = n := by omega
      have HF : Hid (placedB to = true) := Lib.hid (by
        have h := HK.out
        unfold okTake at h
        rw [List.take_of_length_le (by rw [HN.out]; exact Nat.le_refl _)] at h
        unfold placedB
        rw [h.1, decide_eq_true h.2]
        rfl)
      go_wp2_with fail
      go_ret
      exact ⟨by rw [← HP.out, HF.out]; rfl, rfl⟩

end Go.Proofs.Ytbnepjojfaeggaa

namespace Go.Proofs.Ytbnepjojfaeggaa
open Go.RowKit
set_option linter.unusedVariables false
set_option linter.unusedSimpArgs false

theorem putT_next (L : List Int) {to : List Int} {i : Nat} {x : Int} (h : to[i]? = some x) : putT L to (i + 1) = setOut (putT L to i) (10 + 2 * (i : Int)) 2 x := by
  show setOut _ _ _ (to.getD i 0) = _
  rw [List.getD_eq_getElem?_getD, h]
  rfl

set_option maxRecDepth 100000 in
set_option maxHeartbeats 3200000 in
theorem lBegin_any {w : World} {ao : Option Addr} {n cap : Nat} {to : List Int} (q : Int) (hq : I64 q) (hA : IArg w ao n cap to) :
    Calls Try.prog 63 #[.agg #[.int .i64 q, .slice ao n cap]] w (Handed w.heap.size w (begOut ⟨q, to⟩) (begErr ⟨q, to⟩)) := by
  have HN := Lib.hid hA.len
  have hbig := hA.big
  have HA := Lib.hid hA
  have HQ := Lib.hid hq
  obtain ⟨W0, hW0⟩ : ∃ W0, w.alloc (.cells #[.int .i64 q, .slice ao n cap] 72) = W0 := ⟨_, rfl⟩
  have B0 : Hid (Below w.heap.size w W0) := Lib.hid (by rw [← hW0]; exact (Below.refl _ _).alloc (Nat.le_refl _) _)
  have n0 : W0.cell? ⟨w.heap.size, 0, none⟩ = some (.int .i64 q) := by rw [← hW0, World.cell?_alloc_new]; rfl
  have n1 : W0.cell? ⟨w.heap.size, 1, none⟩ = some (.slice ao n cap) := by rw [← hW0, World.cell?_alloc_new]; rfl
  have cN := fun W => numbered_any q n W
  have cP := placed_any (hA.later B0.out)
  have hsp := sound_parts q to
  rw [hA.len] at hsp
  clear hA hq
  cases hok : okEnd q n with
  | false =>
    have HE : Hid (begOut ⟨q, to⟩ = [] ∧ begErr ⟨q, to⟩ = 2) := Lib.hid (by unfold begOut begErr; rw [hsp, hok]; exact ⟨rfl, rfl⟩)
    rw [hok] at cN
    clear hok hsp
    go_enter Try.func63, Try.ntmps63
    go_wp2_with (go_at_call 65; refine (cN _).mono ?_; rintro e w' ⟨rfl, rfl⟩)
    go_ret2
    exact ⟨.slice none 0 0, by rw [HE.out.2]; rfl, by rw [HE.out.1]; exact Fresh.nil _ _, B0.out⟩
  | true =>
    rw [hok] at cN
    cases hpl : placedB to with
    | false =>
      have HE : Hid (begOut ⟨q, to⟩ = [] ∧ begErr ⟨q, to⟩ = 2) := Lib.hid (by unfold begOut begErr; rw [hsp, hok, hpl]; exact ⟨rfl, rfl⟩)
      rw [hpl] at cP
      clear hok hsp hpl
      go_enter Try.func63, Try.ntmps63
      go_wp2_with (first | (go_at_call 65; refine (cN _).mono ?_; rintro e w' ⟨rfl, rfl⟩) | (go_at_call 78; refine cP.mono ?_; rintro e w' ⟨rfl, rfl⟩))
      go_ret2
      exact ⟨.slice none 0 0, by rw [HE.out.2]; rfl, by rw [HE.out.1]; exact Fresh.nil _ _, B0.out⟩
    | true =>
      have hs : soundD ⟨q, to⟩ = true := by rw [hsp, hok, hpl]; rfl
      have HE : Hid (begOut ⟨q, to⟩ = sealOut sumS (putT (startL begT q n) to n) ∧ begErr ⟨q, to⟩ = 0) := Lib.hid (by
        have h := made_beg hs
        simp only [HN.out] at h
        rw [h]
        unfold begOut begErr; rw [hs]; exact ⟨rfl, rfl⟩)
      have H20 : Hid (n ≤ 20) := Lib.hid (by have := (soundD_parts hs).1.2.1; rw [← HN.out]; exact this)
      have cS := start_any ⟨#[66, 69, 71, 78]⟩ q n W0 (by decide) HQ.out (by have := H20.out; unfold i64w; omega)
      rw [show bytesOf ⟨#[66, 69, 71, 78]⟩ = begT from rfl] at cS
      rw [hpl] at cP
      clear hok hsp hpl hs
      generalize startL begT q n = L at *
      go_enter Try.func63, Try.ntmps63
      go_wp2_with (first
        | (go_at_call 67; refine cS.mono ?_; rintro e w3 ⟨v3, rfl, hf3, hb3⟩; have HF3 := Lib.hid (hf3.mono B0.out.size); have B3 := Lib.hid (B0.out.trans (hb3.mono B0.out.size)); have m1 := cell_later hb3 n1; clear hf3 hb3)
        | (go_at_call 65; refine (cN _).mono ?_; rintro e w' ⟨rfl, rfl⟩)
        | (go_at_call 78; refine cP.mono ?_; rintro e w' ⟨rfl, rfl⟩))
      go_loopw [4, 29] (fun bv iv wr => ∃ i : Nat, iv = .int .i64 (i : Int) ∧ i ≤ n ∧ Hid (Fresh wr w.heap.size bv (putT L to i)) ∧ Hid (Below w.heap.size w wr)) (fun _ iv _ => n - (intOf iv).toNat)
      case atStart => exact ⟨0, rfl, Nat.zero_le _, HF3, B3⟩
      case round =>
        obtain ⟨i, rfl, hi, HF, HB⟩ := hrel
        by_cases hlt : i < n
        · obtain ⟨b, off, x, rfl, hx, d0, hx64⟩ := HA.out.at hlt
          have d1 : wr.cell? ⟨b, off + i, none⟩ = some (.int .i64 x) := cell_later HB.out d0
          have HS : Hid (putT L to (i + 1) = setOut (putT L to i) (10 + 2 * (i : Int)) 2 x) := Lib.hid (putT_next L hx)
          have h20 := H20.out
          have i1 : (i : Int) < (n : Int) := by omega
          have i0 : (0 : Int) ≤ (i : Int) := by omega
          have w1 : wrap64 (2 * (i : Int)) = 2 * (i : Int) := by unfold wrap64; omega
          have w2 : wrap64 (10 + 2 * (i : Int)) = 10 + 2 * (i : Int) := by unfold wrap64; omega
          obtain ⟨a5, c5, rfl, hA5⟩ := fresh_form HF.out
          have HA5 := Lib.hid hA5
          have HX := Lib.hid hx64
          have HI : Hid (-9223372036854775808 ≤ 10 + 2 * (i : Int) ∧ 10 + 2 * (i : Int) ≤ 9223372036854775807) := Lib.hid (by omega)
          clear hx d0 hA5 hx64
          generalize putT L to i = L5 at *
          go_wp2_with (go_at_call 79; refine (fSet_any _ _ _ _ (10 + 2 * (i : Int)) 2 x wr HA5.out HI.out (by decide) HX.out).mono ?_; rintro e w6 ⟨v6, rfl, hf6, hb6⟩; have HF6 := Lib.hid hf6; have HB6 := Lib.hid hb6; clear hf6 hb6)
          go_roundw
          case rel => exact ⟨i + 1, by go_num, by omega, Lib.hid (by rw [HS.out]; exact HF6.out.mono HB.out.size), Lib.hid (HB.out.trans (HB6.out.mono HB.out.size))⟩
          case measure => simp [intOf]; omega
        · obtain rfl : i = n := by omega
          obtain ⟨a5, c5, rfl, hA5⟩ := fresh_form HF.out
          generalize putT L to i = L5 at *
          go_wp2_with (go_at_call 66; refine (fSeal_any _ _ _ _ wr hA5).mono ?_; rintro e w6 ⟨v6, rfl, hf6, hb6⟩; have HF6 := Lib.hid hf6; have HB6 := Lib.hid hb6; clear hf6 hb6)
          go_ret2
          exact ⟨v6, by rw [HE.out.2]; rfl, by rw [HE.out.1]; exact HF6.out.mono HB.out.size, HB.out.trans (HB6.out.mono HB.out.size)⟩

theorem made_intsC (w : World) (C : Nat) : OwnV w.heap.size w w.heap.size (ints (List.replicate C 0)) (w.alloc (.cells (madeCells #[.int .i64 0] C) 3)) := by
  refine ⟨fun j x hj => ?_, fun j => by rw [World.frozen?_alloc_mark]; simp, Nat.le_refl _, (Below.refl _ _).alloc (Nat.le_refl _) _⟩
  obtain ⟨y, hy, rfl⟩ := ints_inv hj
  rw [List.getElem?_replicate] at hy
  split at hy
  · next h =>
    cases hy
    rw [World.cell?_alloc_new]
    simp [madeCells, h, Nat.mod_one]
  · cases hy
theorem OwnV.laterL {base g : Nat} {w0 wr wx : World} {xs : List Value} (h : OwnV base w0 g xs wr) (hb : Below wr.heap.size wr wx) (hlt : g < wr.heap.size) : OwnV base w0 g xs wx := by
  obtain ⟨h1, h2, h3, h4⟩ := h
  refine ⟨fun j x hj => cell_later hb (h1 j x hj), fun j => ?_, h3, h4.trans (hb.mono (Nat.le_of_lt (Nat.lt_of_le_of_lt h3 hlt)))⟩
  rw [hb.frozen (p := ⟨g, j, none⟩) hlt]
  exact h2 j

/-- The list, so far, and the variable that holds it. -/
def RdD (W0 : World) (g dd : Nat) (q : Int) (C : Nat) (L : List Int) (wr : World) : Prop :=
  OwnV g W0 g (ints L) wr ∧ L.length = C ∧ (wr.cell? ⟨dd, 0, none⟩ = some (.int .i64 q) ∧ wr.cell? ⟨dd, 1, none⟩ = some (.slice (some ⟨g, 0, none⟩) C C)) ∧ g < wr.heap.size
theorem RdD.step {W0 wr : World} {g dd C i : Nat} {q x : Int} {L : List Int} (h : RdD W0 g dd q C L wr) (hi : i < C) (hne : g ≠ dd) : RdD W0 g dd q C (L.set i x) (wr.setCell ⟨g, i, none⟩ (.int .i64 x)).drew := by
  obtain ⟨h1, h2, ⟨h3, h4⟩, h5⟩ := h
  refine ⟨?_, by rw [List.length_set]; exact h2, ⟨?_, ?_⟩, ?_⟩
  · rw [ints_set]
    exact (h1.store (k := i) (y := .int .i64 x) (by rw [ints_length]; omega)).drew
  · show (wr.setCell ⟨g, i, none⟩ (.int .i64 x)).cell? _ = _
    rw [World.cell?_setCell_other (h := by intro e; exact hne (by simpa using (congrArg Addr.block e)))]; exact h3
  · show (wr.setCell ⟨g, i, none⟩ (.int .i64 x)).cell? _ = _
    rw [World.cell?_setCell_other (h := by intro e; exact hne (by simpa using (congrArg Addr.block e)))]; exact h4
  · show g < (wr.setCell ⟨g, i, none⟩ (.int .i64 x)).heap.size
    simpa using h5
theorem RdD.later {W0 wr wx : World} {g dd C : Nat} {q : Int} {L : List Int} (h : RdD W0 g dd q C L wr) (hb : Below wr.heap.size wr wx) : RdD W0 g dd q C L wx :=
  ⟨h.1.laterL hb h.2.2.2, h.2.1, ⟨cell_later hb h.2.2.1.1, cell_later hb h.2.2.1.2⟩, Nat.lt_of_lt_of_le h.2.2.2 hb.size⟩
/-- What is read so far, and zeros. -/
def soFar (zs : List Int) (C i : Nat) : List Int := toG zs i ++ List.replicate (C - i) 0
theorem soFar_length (zs : List Int) {C i : Nat} (h : i ≤ C) : (soFar zs C i).length = C := by unfold soFar; rw [List.length_append, toG_length, List.length_replicate]; omega
theorem toG_succ (zs : List Int) (i : Nat) : toG zs (i + 1) = toG zs i ++ [getOut zs (10 + 2 * (i : Int)) 2] := by
  unfold toG
  rw [List.range_succ, List.map_append]
  rfl
theorem soFar_step (zs : List Int) {C i : Nat} (h : i < C) : (soFar zs C i).set i (getOut zs (10 + 2 * (i : Int)) 2) = soFar zs C (i + 1) := by
  unfold soFar
  rw [toG_succ, List.set_append_right _ _ (by rw [toG_length]; exact Nat.le_refl _), toG_length, Nat.sub_self]
  rw [show C - i = (C - (i + 1)) + 1 by omega, List.replicate_succ, List.set_cons_zero, List.append_assoc]
  rfl
theorem soFar_at (zs : List Int) {C i : Nat} (h : i < C) : (ints (soFar zs C i))[i]? = some (.int .i64 0) := by
  refine ints_get ?_
  unfold soFar
  rw [List.getElem?_append_right (by rw [toG_length]; exact Nat.le_refl _), toG_length, Nat.sub_self, List.getElem?_replicate, if_pos (by omega)]
theorem soFar_end (zs : List Int) (C : Nat) : soFar zs C C = toG zs C := by
  unfold soFar
  rw [Nat.sub_self, List.replicate_zero, List.append_nil]
theorem toG_in {zs : List Int} (hz : ∀ z ∈ zs, 0 ≤ z ∧ z ≤ 255) (C : Nat) : ∀ z ∈ toG zs C, I64 z := by
  intro z h
  unfold toG at h
  obtain ⟨k, _, rfl⟩ := List.mem_map.1 h
  have := getS_in hz (10 + 2 * (k : Int)) 2 (by decide)
  rw [show ((2 : Nat) : Int) = 2 from rfl] at this
  unfold I64
  omega
theorem RdD.arg {W0 W : World} {g dd C : Nat} {q : Int} {zs : List Int} (h : RdD W0 g dd q C (toG zs C) W) (hz : ∀ z ∈ zs, 0 ≤ z ∧ z ≤ 255) (hC : C ≤ 255) : IArg W (some ⟨g, 0, none⟩) C C (toG zs C) := by
  have := iarg_of_range (cap := C) (own_range h.1) (toG_in hz C) (by rw [toG_length]; omega) (by rw [toG_length]; exact Nat.le_refl _)
  rwa [toG_length] at this
/-- The answer's variable written: the list is as it was. -/
theorem RdD.out {W0 W : World} {g dd C B : Nat} {q : Int} {zs : List Int} {u v : Value} (h : RdD W0 g dd q C (toG zs C) W) (hz : ∀ z ∈ zs, 0 ≤ z ∧ z ≤ 255) (hC : C ≤ 255) (hB : B < g) : FreshI ((W.setCell ⟨B, 0, none⟩ u).setCell ⟨B, 1, none⟩ v) B (.slice (some ⟨g, 0, none⟩) C C) (toG zs C) := by
  have hr : ((W.setCell ⟨B, 0, none⟩ u).setCell ⟨B, 1, none⟩ v).rangeAt g 0 (ints (toG zs C)) := fun j x hj => by
    rw [Nat.zero_add, World.cell?_setCell_other (h := by intro e; cases e; omega), World.cell?_setCell_other (h := by intro e; cases e; omega)]
    exact h.1.1 j x hj
  have := iarg_of_range (cap := C) hr (toG_in hz C) (by rw [toG_length]; omega) (by rw [toG_length]; exact Nat.le_refl _)
  exact ⟨some ⟨g, 0, none⟩, C, by rw [toG_length], this, Or.inr ⟨g, 0, rfl, Nat.le_of_lt hB⟩⟩

set_option maxRecDepth 100000 in
set_option maxHeartbeats 3200000 in
theorem lBegins_any (ao : Option Addr) (len cap : Nat) (zs : List Int) (w : World) (hA : Arg w ao len cap zs) : Calls Try.prog 64 #[.slice ao len cap] w (HandedD w.heap.size w (getBeg zs) (getBegErr zs)) := by
  have HA := Lib.hid hA
  have HZ := Lib.hid hA.1.2.2.1
  obtain ⟨W0, hW0⟩ : ∃ W0, w.alloc (.cells #[.int .i64 0, .slice none 0 0] 72) = W0 := ⟨_, rfl⟩
  have B0 : Hid (Below w.heap.size w W0) := Lib.hid (by rw [← hW0]; exact (Below.refl _ _).alloc (Nat.le_refl _) _)
  have cT := told_any ao len cap zs W0 (hA.later B0.out)
  obtain ⟨C, hC⟩ : ∃ C : Nat, getOut zs 8 1 = (C : Int) := ⟨(getOut zs 8 1).toNat, by have := getC_in hA.1.2.2.1; omega⟩
  have HC : Hid (C ≤ 255) := Lib.hid (by have := getC_in hA.1.2.2.1; omega)
  have HT : Hid (getT zs = ⟨getOut zs 4 4, toG zs C⟩) := Lib.hid (by unfold getT; rw [hC]; rfl)
  rw [hC] at cT
  have HQ : Hid (I64 (getOut zs 4 4)) := Lib.hid (by have := getS_in hA.1.2.2.1 4 4 (by decide); rw [show ((4 : Nat) : Int) = 4 from rfl] at this; unfold I64; omega)
  have hw := Lib.hid (beg_ways zs hA.1.2.2.1)
  generalize getOut zs 4 4 = q at *
  clear hA hC
  have hmk := run_make_vals elemI W0 C (by have := HC.out; omega)
  rw [show (Value.int .i64 0).cells = #[.int .i64 0] from rfl] at hmk
  have HM := Lib.hid (made_intsC W0 C)
  have B1 : Hid (Below w.heap.size w (W0.alloc (.cells (madeCells #[.int .i64 0] C) 3))) := Lib.hid (B0.out.alloc B0.out.size _)
  obtain ⟨g, hg⟩ : ∃ g, W0.heap.size = g := ⟨_, rfl⟩
  have HG : Hid (w.heap.size < g ∧ g < (W0.alloc (.cells (madeCells #[.int .i64 0] C) 3)).heap.size) := Lib.hid (by rw [← hg, ← hW0]; simp)
  obtain ⟨W1, hW1⟩ : ∃ W1, W0.alloc (.cells (madeCells #[.int .i64 0] C) 3) = W1 := ⟨_, rfl⟩
  rw [hW1] at hmk HM B1 HG
  rw [hg] at hmk HM
  have HW := Lib.hid (And.intro hW0 (And.intro hW1 hg))
  clear hW1 hg
  go_enter Try.func64, Try.ntmps64
  go_wp2_with (go_at_call 80; refine cT.mono ?_; rintro e w' ⟨rfl, rfl⟩)
  have HM2 : Hid (RdD W0 g W1.heap.size q C (soFar zs C 0) (W1.alloc (.cells #[.int .i64 q, .slice (some ⟨g, 0, none⟩) C C] 72))) := Lib.hid (by
    have hb : Below W1.heap.size W1 (W1.alloc (.cells #[.int .i64 q, .slice (some ⟨g, 0, none⟩) C C] 72)) := (Below.refl _ _).alloc (Nat.le_refl _) _
    refine ⟨?_, soFar_length zs (Nat.zero_le _), ⟨?_, ?_⟩, Nat.lt_of_lt_of_le HG.out.2 hb.size⟩
    · exact HM.out.laterL hb HG.out.2
    · rw [World.cell?_alloc_new]; rfl
    · rw [World.cell?_alloc_new]; rfl)
  have HDD : Hid (g ≠ W1.heap.size ∧ w.heap.size < g) := Lib.hid ⟨by have := HG.out.2; omega, HG.out.1⟩
  have HRES : Hid (∀ wr, Below g W0 wr → wr.cell? ⟨w.heap.size, 0, none⟩ = some (.int .i64 0) ∧ wr.cell? ⟨w.heap.size, 1, none⟩ = some (.slice none 0 0) ∧ (∀ j, wr.frozen? ⟨w.heap.size, j, none⟩ = false) ∧ Below w.heap.size w wr) := Lib.hid (fun wr hb => by
    obtain ⟨e0, e1, e2⟩ := HW.out
    rw [← e2] at hb
    refine ⟨cell_later hb ?_, cell_later hb ?_, fun j => ?_, B0.out.trans (hb.mono B0.out.size)⟩
    · rw [← e0, World.cell?_alloc_new]; rfl
    · rw [← e0, World.cell?_alloc_new]; rfl
    · rw [hb.frozen (p := ⟨w.heap.size, j, none⟩) (by rw [← e0]; simp), ← e0, World.frozen?_alloc_mark]; simp)
  generalize W1.heap.size = dd at *
  clear hmk HM HG HW hW0
  go_loopw [22] (fun iv wr => ∃ i : Nat, iv = .int .i64 (i : Int) ∧ i ≤ C ∧ Hid (RdD W0 g dd q C (soFar zs C i) wr)) (fun iv _ => C - (intOf iv).toNat)
  case atStart => exact ⟨0, rfl, Nat.zero_le _, HM2⟩
  case round =>
    obtain ⟨i, rfl, hi, HR⟩ := hrel
    by_cases hlt : i < C
    · obtain ⟨x, hx⟩ : ∃ x, getOut zs (10 + 2 * (i : Int)) 2 = x := ⟨_, rfl⟩
      have hC := HC.out
      have HS : Hid (RdD W0 g dd q C (soFar zs C (i + 1)) (wr.setCell ⟨g, i, none⟩ (.int .i64 x)).drew) := Lib.hid (by rw [← soFar_step zs hlt, hx]; exact HR.out.step hlt HDD.out.1)
      have HBW : Hid (Below g W0 wr) := Lib.hid HR.out.1.2.2.2
      have d1 := HR.out.2.2.1.2
      have e4 : wr.cell? ⟨g, i, none⟩ = some (.int .i64 0) := HR.out.1.1 i _ (soFar_at zs hlt)
      have f4 : wr.frozen? ⟨g, i, none⟩ = false := HR.out.1.2.1 i
      have i1 : (i : Int) < (C : Int) := by omega
      have i0 : (0 : Int) ≤ (i : Int) := by omega
      have x1 : IntKind.i64.wrap (2 * (i : Int)) = 2 * (i : Int) := IntWalk.i64_in _ (by omega)
      have x2 : IntKind.i64.wrap (10 + 2 * (i : Int)) = 10 + 2 * (i : Int) := IntWalk.i64_in _ (by omega)
      obtain ⟨E, hE⟩ : ∃ E, fErr len (10 + 2 * (i : Int)) 2 = E := ⟨_, rfl⟩
      have HGT : Hid (∀ W, Below g W0 W → Calls Try.prog 81 #[.slice ao len cap, .int .i64 (10 + 2 * (i : Int)), .int .i64 2] W (fun e w' => e = .returned (.tuple #[.int .i64 x, .int .i64 E]) ∧ w' = W)) := Lib.hid (fun W hW => by
        have c := fGet_any ao len cap zs (10 + 2 * (i : Int)) 2 W (HA.out.later (HRES.out W hW).2.2.2) (by omega) (by decide)
        rw [hx, hE] at c
        exact c.mono (fun e w' h => ⟨h.1, h.2.symm⟩))
      have HBD : Hid (Below g W0 wr.drew) := Lib.hid HBW.out.drew
      have dS : ∀ u, (wr.drew.setCell ⟨g, i, none⟩ u).cell? ⟨dd, 1, none⟩ = some (.slice (some ⟨g, 0, none⟩) C C) := fun u => by
        rw [World.cell?_setCell_other (h := by intro e; exact HDD.out.1 (by simpa using (congrArg Addr.block e)))]; exact d1
      clear hx hE
      go_wp2_with fail
      refine wp_region_held_drew (S := fun W => W.cell? ⟨dd, 1, none⟩ = some (.slice (some ⟨g, 0, none⟩) C C)) (by kernel_rfl) d1 (fun hHeld => ?_)
      refine wpAnyH_take (i := 0) (oi := ⟨some 26, _, _, _, _, _⟩) (v := .pointer (some ⟨dd, 1, none⟩)) rfl (by kernel_rfl) (by kernel_rfl) (by kernel_rfl) (fun _ _ _ h => h) (Or.inl ⟨by kernel_rfl, by intro w _; go_simp; (try omega)⟩) (by assumption) ?_
      try simp only [Act.put, List.setIfInBounds_toArray, List.set_cons_zero, List.set_cons_succ]
      refine wpAnyH_take (i := 1) (oi := ⟨some 27, _, _, _, _, _⟩) (v := .slice (some ⟨g, 0, none⟩) C C) rfl (by kernel_rfl) (by kernel_rfl) (by kernel_rfl) (fun _ _ _ h => h) (Or.inl ⟨by kernel_rfl, by intro w hSw; (try dsimp only at hSw); go_simp⟩) (by assumption) ?_
      try simp only [Act.put, List.setIfInBounds_toArray, List.set_cons_zero, List.set_cons_succ]
      refine wpAnyH_take (i := 2) (oi := ⟨some 28, _, _, _, _, _⟩) (v := .int .i64 (i : Int)) rfl (by kernel_rfl) (by kernel_rfl) (by kernel_rfl) (fun _ _ _ h => h) (Or.inl ⟨by kernel_rfl, fun w _ => rfl⟩) (by assumption) ?_
      try simp only [Act.put, List.setIfInBounds_toArray, List.set_cons_zero, List.set_cons_succ]
      refine wpAnyH_take (i := 3) (oi := ⟨some 29, _, _, _, _, _⟩) (v := .slice ao len cap) rfl (by kernel_rfl) (by kernel_rfl) (by kernel_rfl) (fun _ _ _ h => h) (Or.inl ⟨by kernel_rfl, fun w _ => rfl⟩) (by assumption) ?_
      try simp only [Act.put, List.setIfInBounds_toArray, List.set_cons_zero, List.set_cons_succ]
      refine wpAnyH_take (i := 4) (oi := ⟨some 30, _, _, _, _, _⟩) (v := .int .i64 (i : Int)) rfl (by kernel_rfl) (by kernel_rfl) (by kernel_rfl) (fun _ _ _ h => h) (Or.inl ⟨by kernel_rfl, fun w _ => rfl⟩) (by assumption) ?_
      try simp only [Act.put, List.setIfInBounds_toArray, List.set_cons_zero, List.set_cons_succ]
      refine wpAnyH_take (i := 5) (oi := ⟨some 31, _, _, _, _, _⟩) (v := .int .i64 (2 * (i : Int))) rfl (by kernel_rfl) (by kernel_rfl) (by kernel_rfl) (fun _ _ _ h => h) (Or.inl ⟨by kernel_rfl, by intro w _; go_simp; (try omega)⟩) (by assumption) ?_
      try simp only [Act.put, List.setIfInBounds_toArray, List.set_cons_zero, List.set_cons_succ]
      refine wpAnyH_take (i := 6) (oi := ⟨some 32, _, _, _, _, _⟩) (v := .int .i64 (10 + 2 * (i : Int))) rfl (by kernel_rfl) (by kernel_rfl) (by kernel_rfl) (fun _ _ _ h => h) (Or.inl ⟨by kernel_rfl, by intro w _; go_simp; (try omega)⟩) (by assumption) ?_
      try simp only [Act.put, List.setIfInBounds_toArray, List.set_cons_zero, List.set_cons_succ]
      refine wpAnyH_ready (rs := [7]) (by kernel_rfl) (by simp) ?_
      refine AllReadyH.cons (o := ⟨some 33, _, _, _, _, _⟩) rfl (fun K hK => ?_) AllReadyH.nil
      go_simp
      go_at_call 81
      refine (HGT.out _ HBD.out).mono ?_
      rintro e w5 ⟨rfl, rfl⟩
      try (go_wp2_with fail)
      refine hK.out _ _ ?_ (fun hHeld1 => ?_)
      · exact d1
      clear hK K
      try simp only [Act.put, List.setIfInBounds_toArray, List.set_cons_zero, List.set_cons_succ]
      refine wpAnyH_take (i := 8) (oi := ⟨some 25, _, _, _, _, _⟩) (v := .tuple #[.int .i64 x, .int .i64 E]) rfl (by kernel_rfl) (by kernel_rfl) (by kernel_rfl) (fun _ _ _ h => h) (Or.inl ⟨by kernel_rfl, fun w _ => rfl⟩) (by assumption) ?_
      try simp only [Act.put, List.setIfInBounds_toArray, List.set_cons_zero, List.set_cons_succ]
      refine wpAnyH_take (i := 9) (oi := ⟨some 34, _, _, _, _, _⟩) (v := .int .i64 x) rfl (by kernel_rfl) (by kernel_rfl) (by kernel_rfl) (fun _ _ _ h => h) (Or.inl ⟨by kernel_rfl, by intro w _; go_simp; (try omega)⟩) (by assumption) ?_
      try simp only [Act.put, List.setIfInBounds_toArray, List.set_cons_zero, List.set_cons_succ]
      refine wpAnyH_take (i := 10) (oi := ⟨some 35, _, _, _, _, _⟩) (v := .int .i64 E) rfl (by kernel_rfl) (by kernel_rfl) (by kernel_rfl) (fun _ _ _ h => h) (Or.inl ⟨by kernel_rfl, by intro w _; go_simp; (try omega)⟩) (by assumption) ?_
      try simp only [Act.put, List.setIfInBounds_toArray, List.set_cons_zero, List.set_cons_succ]
      refine wpAnyH_take (i := 11) (oi := ⟨some 36, _, _, _, _, _⟩) (v := .pointer (some ⟨g, i, none⟩)) rfl (by kernel_rfl) (by kernel_rfl) (by kernel_rfl) (fun _ _ _ h => h) (Or.inl ⟨by kernel_rfl, by intro w _; go_simp; (try omega)⟩) (by assumption) ?_
      try simp only [Act.put, List.setIfInBounds_toArray, List.set_cons_zero, List.set_cons_succ]
      refine wpAnyH_ready (rs := [12]) (by kernel_rfl) (by simp) ?_
      refine AllReadyH.cons (o := ⟨none, _, _, _, _, _⟩) rfl (fun K hK => ?_) AllReadyH.nil
      go_simp
      refine hK.out _ _ ?_ (fun hHeld2 => ?_)
      · exact dS _
      clear hK K
      try simp only [Act.put, List.setIfInBounds_toArray, List.set_cons_zero, List.set_cons_succ]
      refine wpAnyH_done (by kernel_rfl) ?_ _
      all_goals go_wp2_with fail
      all_goals go_roundw
      all_goals first
        | (exact ⟨i + 1, by go_num, by omega, HS⟩)
        | (simp [intOf]; omega)
    · obtain rfl : i = C := by omega
      have HR2 : Hid (RdD W0 g dd q i (toG zs i) wr) := Lib.hid (by have := HR.out; rwa [soFar_end] at this)
      have cB := lBegin_any q HQ.out (HR2.out.arg HZ.out HC.out)
      have c0 := HR2.out.2.2.1.1
      have c1 := HR2.out.2.2.1.2
      obtain ⟨E, O, hEO⟩ : ∃ E O, begErr ⟨q, toG zs i⟩ = E ∧ begOut ⟨q, toG zs i⟩ = O := ⟨_, _, rfl, rfl⟩
      rw [hEO.1, hEO.2] at cB
      have H3 : Hid ((E = 2 ∧ getBegErr zs = 2 ∧ getBeg zs = ⟨0, []⟩) ∨ (E = 0 ∧ decide (O = zs) = true ∧ getBegErr zs = 0 ∧ getBeg zs = ⟨q, toG zs i⟩) ∨ (E = 0 ∧ decide (O = zs) = false ∧ getBegErr zs = 2 ∧ getBeg zs = ⟨0, []⟩)) := Lib.hid (by
        have h := hw.out
        rw [HT.out] at h
        obtain ⟨e1, e2⟩ := hEO
        unfold begErr begOut at *
        rcases h with ⟨h1, h2, h3, h4⟩ | ⟨h1, h2, h3, h4⟩ | ⟨h1, h3, h4⟩
        · right; left
          rw [if_pos h1] at e1 e2
          exact ⟨e1.symm, by rw [← e2]; exact decide_eq_true h2, h4, h3⟩
        · right; right
          rw [if_pos h1] at e1 e2
          exact ⟨e1.symm, by rw [← e2]; exact decide_eq_false h2, h4, h3⟩
        · left
          rw [if_neg (by rw [h1]; decide)] at e1
          exact ⟨e1.symm, h4, h3⟩)
      clear hEO hw HT HM2 HR
      have HBW : Hid (Below g W0 wr) := Lib.hid HR2.out.1.2.2.2
      rcases H3.out with ⟨h1, h2, h3⟩ | ⟨h1, h4, h2, h3⟩ | ⟨h1, h4, h2, h3⟩
      all_goals
        subst h1
        have G2 := Lib.hid h2
        have G3 := Lib.hid h3
        clear h2 h3
        go_wp2_with (first
          | (go_at_call 70; refine (bytesEq_any a5 ao _ c5 len cap O zs _ HA5.out.1 (HA.out.later q3.out).1).mono ?_; rintro e w6 ⟨rfl, rfl⟩; rw [h4])
          | (go_at_call 63; refine cB.mono ?_; rintro e w5 ⟨v5, rfl, hf5, hb5⟩; obtain ⟨a5, c5, rfl, hA5⟩ := fresh_form hf5; have HA5 := Lib.hid hA5; have HD5 := Lib.hid (HR2.out.later hb5); have p0 := cell_later hb5 c0; have p1 := cell_later hb5 c1; obtain ⟨q0, q1, q2, q3'⟩ := HRES.out w5 HD5.out.1.2.2.2; have q3 := Lib.hid q3'; clear hf5 hb5 hA5 q3'))
      all_goals
        refine bodyPost_ret (v := .tuple #[.agg #[.int .i64 (getBeg zs).seq, if getBegErr zs = 0 then .slice (some ⟨g, 0, none⟩) i i else .slice none 0 0], .int .i64 (getBegErr zs)]) ?_ rfl ⟨_, rfl, ?_, ((q3.out.setCell (Nat.le_refl _) _).setCell (Nat.le_refl _) _)⟩
        · rw [G2.out, G3.out, results_cell_tmp rfl]
          go_simp
          try rfl
        · rw [G2.out, G3.out]
          first
            | exact FreshI.nil _ _
            | exact HD5.out.out HZ.out HC.out HDD.out.2

end Go.Proofs.Ytbnepjojfaeggaa

namespace Go.Proofs.Ytbnepjojfaeggaa
open Go.RowKit
set_option linter.unusedVariables false
set_option linter.unusedSimpArgs false

theorem ring1_any (ad : Option Addr) (l c : Nat) (w : World) : Calls Try.prog 86 #[.slice ad l c] w fun e w' => e = .returned (.bool (decide (l ≠ 64))) ∧ w = w' := by
  by_cases h : l = 64
  · subst h
    go_enter Try.func86, Try.ntmps86
    go_wp2_with fail
    go_ret
    exact ⟨rfl, rfl⟩
  · have hne : ((l : Int) != 64) = true := by simp; omega
    rw [decide_eq_true h]
    go_enter Try.func86, Try.ntmps86
    go_wp2_with fail
    go_ret
    exact ⟨rfl, rfl⟩

def all64 (Z : List (List Int)) : Bool := Z.all fun b => decide (b.length = 64)

set_option maxRecDepth 100000 in
set_option maxHeartbeats 1600000 in
theorem indexRing_any {w : World} {ao : Option Addr} {m cap : Nat} {Z : List (List Int)} (hR : RowsIn w ao m cap Z) (hm : m ≤ 140737488351232) :
    Calls Try.prog 95 #[.slice ao m cap, .func (.func 86) #[] #[]] w fun e w' => (∃ k : Int, e = .returned (.int .i64 k) ∧ FoundI (!all64 Z) k) ∧ w = w' := by
  have HR := Lib.hid hR
  have HN := Lib.hid hR.1
  clear hR
  go_enter Try.func95, Try.ntmps95
  go_wp2_with fail
  go_loop [8] (fun iv => ∃ i : Nat, iv = .int .i64 (i : Int) ∧ i ≤ m ∧ Hid (all64 (Z.take i) = true)) (fun iv => m - (intOf iv).toNat)
  case atStart => exact ⟨0, rfl, Nat.zero_le _, Lib.hid rfl⟩
  case round =>
    obtain ⟨i, rfl, hi, HP⟩ := hrel
    by_cases hlt : i < m
    · obtain ⟨b, off, ad, l, c, rfl, d1, hB⟩ := HR.out.at hlt
      have i1 : (i : Int) < (m : Int) := by omega
      have i0 : (0 : Int) ≤ (i : Int) := by omega
      have hzl := hB.1
      have hget : Z[i]? = some (Z.getD i []) := by rw [List.getD_eq_getElem?_getD, List.getElem?_eq_getElem (by have := HN.out; omega)]; rfl
      have cF := ring1_any ad l c w
      by_cases hv : l = 64
      · have HP2 : Hid (all64 (Z.take (i + 1)) = true) := Lib.hid (by
          unfold all64
          rw [List.take_add_one, hget, List.all_append]
          have := HP.out
          unfold all64 at this
          rw [this]
          simp only [Option.toList_some, List.all_cons, List.all_nil, Bool.and_true, Bool.true_and]
          exact decide_eq_true (by rw [hzl]; exact hv))
        rw [decide_eq_false (by simpa using hv)] at cF
        clear hB hzl hget hv
        go_wp2_with (go_at_call 86; refine cF.mono ?_; rintro e w3 ⟨rfl, rfl⟩)
        go_round
        case rel => exact ⟨i + 1, by go_num, by omega, HP2⟩
        case measure => simp [intOf]; omega
      · have HP2 : Hid (all64 Z = false) := Lib.hid (by
          cases h : all64 Z with
          | false => rfl
          | true =>
            unfold all64 at h
            have := of_decide_eq_true (List.all_eq_true.1 h _ (List.mem_of_getElem? hget))
            rw [hzl] at this
            exact absurd this hv)
        rw [decide_eq_true hv] at cF
        clear hB hzl hget hv
        go_wp2_with (go_at_call 86; refine cF.mono ?_; rintro e w3 ⟨rfl, rfl⟩)
        go_ret
        exact ⟨⟨_, rfl, fun _ => i0, fun h => by rw [HP2.out] at h; cases h⟩, rfl⟩
    · obtain rfl : i = m := by omega
      have HP2 : Hid (all64 Z = true) := Lib.hid (by have := HP.out; rwa [List.take_of_length_le (by rw [HN.out]; exact Nat.le_refl _)] at this)
      go_wp2_with fail
      go_ret
      exact ⟨⟨_, rfl, And.intro (fun h => by rw [HP2.out] at h; cases h) (fun _ => rfl)⟩, rfl⟩

set_option maxHeartbeats 400000 in
theorem containsRing_any {w : World} {ao : Option Addr} {m cap : Nat} {Z : List (List Int)} (hR : RowsIn w ao m cap Z) (hm : m ≤ 140737488351232) :
    Calls Try.prog 85 #[.slice ao m cap, .func (.func 86) #[] #[]] w fun e w' => e = .returned (.bool (!all64 Z)) ∧ w = w' := by
  have c := indexRing_any hR hm
  clear hR
  cases hd : all64 Z with
  | true =>
    rw [hd] at c
    go_enter Try.func85, Try.ntmps85
    go_wp2_with (go_at_call 95; refine c.mono ?_; rintro e w' ⟨⟨k, rfl, hk⟩, rfl⟩; obtain rfl := hk.2 rfl)
    go_ret
    exact ⟨rfl, rfl⟩
  | false =>
    rw [hd] at c
    go_enter Try.func85, Try.ntmps85
    go_wp2_with (go_at_call 95; refine c.mono ?_; rintro e w' ⟨⟨k, rfl, hk⟩, rfl⟩; replace hk := hk.1 rfl)
    go_ret
    exact ⟨rfl, rfl⟩

/-- Is it a log? -/
def ringB (Z : List (List Int)) : Bool := decide (Z.length = 40) && all64 Z

set_option maxHeartbeats 400000 in
theorem ring_any {w : World} {ao : Option Addr} {m cap : Nat} {Z : List (List Int)} (hR : RowsIn w ao m cap Z) : Calls Try.prog 71 #[.slice ao m cap] w fun e w' => e = .returned (.bool (ringB Z)) ∧ w = w' := by
  by_cases h40 : m = 40
  · have hE : ringB Z = all64 Z := by unfold ringB; rw [hR.1, decide_eq_true h40]; rfl
    rw [hE]
    subst h40
    have c := containsRing_any hR (by decide)
    clear hR hE
    go_enter Try.func71, Try.ntmps71
    go_wp2_with (go_at_call 85; refine c.mono ?_; rintro e w' ⟨rfl, rfl⟩)
    go_ret
    exact ⟨rfl, rfl⟩
  · have hE : ringB Z = false := by unfold ringB; rw [hR.1, decide_eq_false h40]; rfl
    have hne : ((m : Int) == 40) = false := by simp; omega
    rw [hE]
    clear hR hE
    go_enter Try.func71, Try.ntmps71
    go_wp2_with fail
    go_ret
    exact ⟨rfl, rfl⟩

/-- A log as the closure sees it: its variable holds the blocks, of which each has 64 bytes. -/
def LogAt (w : World) (B b off cap : Nat) (Z : List (List Int)) : Prop :=
  w.cell? ⟨B, 0, none⟩ = some (.slice (some ⟨b, off, none⟩) (40 : Nat) cap) ∧ 40 ≤ cap ∧ Z.length = 40 ∧ ∀ j, j < 40 → ∃ ad c, w.cell? ⟨b, off + j, none⟩ = some (.slice (some ad) (64 : Nat) c) ∧ Arg w (some ad) 64 c (Z.getD j [])

theorem LogAt.later {w wx : World} {B b off cap : Nat} {Z : List (List Int)} (h : LogAt w B b off cap Z) (hb : Below w.heap.size w wx) : LogAt wx B b off cap Z := by
  obtain ⟨h1, h2, h3, h4⟩ := h
  refine ⟨cell_later hb h1, h2, h3, fun j hj => ?_⟩
  obtain ⟨ad, c, h5, h6⟩ := h4 j hj
  exact ⟨ad, c, cell_later hb h5, h6.later hb⟩

set_option maxHeartbeats 800000 in
theorem lies_any {w : World} {B b off cap : Nat} {Z : List (List Int)} (k : Nat) (hk : k ≤ 1000) (hL : LogAt w B b off cap Z) :
    Calls Try.prog 72 #[.int .i64 (k : Int), .pointer (some ⟨B, 0, none⟩)] w fun e w' => (∃ ad c, e = .returned (.slice (some ad) (64 : Nat) c) ∧ Arg w' (some ad) 64 c (Z.getD (k % 40) [])) ∧ w = w' := by
  obtain ⟨h1, h2, h3, h4⟩ := hL
  obtain ⟨ad, c, h5, h6⟩ := h4 (k % 40) (Nat.mod_lt _ (by decide))
  have HA := Lib.hid h6
  obtain ⟨j, hj⟩ : ∃ j, k % 40 = j := ⟨_, rfl⟩
  have hj40 : j < 40 := by omega
  rw [hj] at h5 HA ⊢
  have x1 : Int.tmod (k : Int) 40 = (j : Int) := by rw [IntWalk.rem_in _ _ (by omega)]; omega
  have x2 : IntKind.i64.wrap (j : Int) = (j : Int) := IntWalk.i64_in _ (by omega)
  have j0 : (0 : Int) ≤ (j : Int) := by omega
  have j1 : (j : Int) < 40 := by omega
  clear h6 h4 h3 hj
  go_enter Try.func72, Try.ntmps72
  go_wp2_with fail
  go_ret
  exact ⟨⟨ad, c, rfl, HA.out⟩, rfl⟩

end Go.Proofs.Ytbnepjojfaeggaa

namespace Go.Proofs.Ytbnepjojfaeggaa
open Go.RowKit
set_option linter.unusedVariables false
set_option linter.unusedSimpArgs false

/-- A copy of 64 bytes, in new memory. -/
def Copied (w : World) (zs : List Int) (e : Ending) (w' : World) : Prop :=
  ∃ g off c, e = .returned (.slice (some ⟨g, off, none⟩) (64 : Nat) c) ∧ Arg w' (some ⟨g, off, none⟩) 64 c zs ∧ w.heap.size ≤ g ∧ Below w.heap.size w w'

set_option maxRecDepth 100000 in
theorem bClone_any {w : World} {ad : Addr} {c : Nat} {zs : List Int} (hA : Arg w (some ad) 64 c zs) : Calls Try.prog 88 #[.slice (some ad) (64 : Nat) c] w (Copied w zs) := by
  obtain ⟨hB, hnil, _, hlen⟩ := hA
  have hown := World.ownsRow_made (base := w.heap.size) (e := 5) (size := 1) w #[] 0 (Nat.le_refl _) (by decide) rfl
  have hb0 : Below w.heap.size w (w.alloc (.cells #[] 5)) := (Below.refl _ _).alloc (Nat.le_refl _) _
  have hA0 := hB.later hb0
  have HZ := Lib.hid hB.2.2.1
  have HL := Lib.hid hB.1
  have EQ : ∀ w, (binOp .eql 46 (.slice (some ad) (64 : Nat) c) (.slice none 0 0)).run Try.prog w = .ok (.bool false) w := fun w => by
    simp only [binOp]
    simp [run_equal_slice_nil w 46 5 (some ad) 64 c Try.underlying46]
  clear hB hnil
  go_enter Try.func88, Try.ntmps88
  go_wp2_with (at_builtin; refine wp_append_bytes rfl (.tmp 5) (.tmp 6) rfl w.heap.size 0 _ [] rfl hown (some ad) 64 c zs rfl hA0 (by simp) (by omega) (by simp) ?_; intro v1 w1 hown1 hb1; have HB1 := Lib.hid (hb0.trans hb1); have HO1 := Lib.hid hown1; clear hown1 hb1 hown hA0)
  go_ret
  have h := HO1.out
  rw [Nat.zero_add, List.nil_append] at h
  obtain ⟨g, p, rfl, hc, hl, hO⟩ := own_of_owns (w0 := w) h HZ.out (by decide) HB1.out
  refine ⟨g, 0, p, rfl, ⟨?_, (fun h => by cases h), hc, by decide⟩, hO.2.2.2.1, HB1.out⟩
  have h2 := hO.bts (by rw [hl]; decide)
  rw [hl] at h2
  exact h2

/-! ### In plain words: the ways a transaction stands, or does not -/

theorem err_two (X : List Int) : getBegErr X = 0 ∨ getBegErr X = 2 := by unfold getBegErr; split; exact Or.inl rfl; exact Or.inr rfl
theorem err_end (X : List Int) : getEndErr X = 0 ∨ getEndErr X = 2 := by unfold getEndErr; split; exact Or.inl rfl; exact Or.inr rfl
theorem beg_is {X : List Int} (h : getBegErr X = 0) : isBeg X = true ∧ getBeg X = readD X ∧ 1 ≤ (getBeg X).to.length ∧ (getBeg X).to.length ≤ 20 := by
  have hb : isBeg X = true := by
    cases hI : isBeg X with
    | true => rfl
    | false => unfold getBegErr at h; rw [hI] at h; cases h
  have hg : getBeg X = readD X := by unfold getBeg; rw [if_pos hb]
  have := (soundD_parts (isBeg_block hb).2.1).1
  rw [hg]
  exact ⟨hb, rfl, this.1, this.2.1⟩
theorem end_is {X : List Int} (h : getEndErr X = 0) : isEnd X = true ∧ getEndSeq X = leN X 4 4 ∧ getEndCount X = X.getD 8 0 := by
  have hb : isEnd X = true := by
    cases hI : isEnd X with
    | true => rfl
    | false => unfold getEndErr at h; rw [hI] at h; cases h
  unfold getEndSeq getEndCount
  rw [if_pos hb, if_pos hb]
  exact ⟨hb, rfl, rfl⟩

theorem tx_none_ways {Z : List (List Int)} {a : Nat} {q : Int} (h : txAt Z a q = none) : getBegErr (Z.getD a []) = 2 ∨ (getBegErr (Z.getD a []) = 0 ∧ (getBeg (Z.getD a [])).seq ≠ q) ∨ (getBegErr (Z.getD a []) = 0 ∧ (getBeg (Z.getD a [])).seq = q ∧
    (getEndErr (Z.getD ((a + ((getBeg (Z.getD a [])).to.length + 1)) % 40) []) = 2 ∨ (getEndErr (Z.getD ((a + ((getBeg (Z.getD a [])).to.length + 1)) % 40) []) = 0 ∧ getEndSeq (Z.getD ((a + ((getBeg (Z.getD a [])).to.length + 1)) % 40) []) ≠ q) ∨
      (getEndErr (Z.getD ((a + ((getBeg (Z.getD a [])).to.length + 1)) % 40) []) = 0 ∧ getEndSeq (Z.getD ((a + ((getBeg (Z.getD a [])).to.length + 1)) % 40) []) = q ∧ getEndCount (Z.getD ((a + ((getBeg (Z.getD a [])).to.length + 1)) % 40) []) ≠ ((getBeg (Z.getD a [])).to.length : Int)))) := by
  rcases err_two (Z.getD a []) with h1 | h1
  · right
    by_cases h2 : (getBeg (Z.getD a [])).seq = q
    · right
      refine ⟨h1, h2, ?_⟩
      obtain ⟨b1, b2, b3, b4⟩ := beg_is h1
      rw [b2] at h2 ⊢
      rcases err_end (Z.getD ((a + ((readD (Z.getD a [])).to.length + 1)) % 40) []) with h3 | h3
      · right
        obtain ⟨e1, e2, e3⟩ := end_is h3
        by_cases h4 : getEndSeq (Z.getD ((a + ((readD (Z.getD a [])).to.length + 1)) % 40) []) = q
        · right
          refine ⟨h3, h4, fun h5 => ?_⟩
          unfold txAt at h
          rw [if_pos ⟨b1, h2, e1, by rw [← e2]; exact h4, by rw [← e3]; exact h5⟩] at h
          cases h
        · exact Or.inl ⟨h3, h4⟩
      · exact Or.inl h3
    · exact Or.inl ⟨h1, h2⟩
  · exact Or.inl h1
theorem tx_some_ways {Z : List (List Int)} {a : Nat} {q : Int} {l : List (Int × List Int)} (h : txAt Z a q = some l) : getBegErr (Z.getD a []) = 0 ∧ (getBeg (Z.getD a [])).seq = q ∧ (1 ≤ (getBeg (Z.getD a [])).to.length ∧ (getBeg (Z.getD a [])).to.length ≤ 20) ∧
    getEndErr (Z.getD ((a + ((getBeg (Z.getD a [])).to.length + 1)) % 40) []) = 0 ∧ getEndSeq (Z.getD ((a + ((getBeg (Z.getD a [])).to.length + 1)) % 40) []) = q ∧ getEndCount (Z.getD ((a + ((getBeg (Z.getD a [])).to.length + 1)) % 40) []) = ((getBeg (Z.getD a [])).to.length : Int) ∧ l = txL Z (getBeg (Z.getD a [])).to a (getBeg (Z.getD a [])).to.length := by
  unfold txAt at h
  split at h
  · next hc =>
    obtain ⟨c1, c2, c3, c4, c5⟩ := hc
    have h0 : getBegErr (Z.getD a []) = 0 := by unfold getBegErr; rw [if_pos c1]
    obtain ⟨b1, b2, b3, b4⟩ := beg_is h0
    have h1 : getEndErr (Z.getD ((a + ((readD (Z.getD a [])).to.length + 1)) % 40) []) = 0 := by unfold getEndErr; rw [if_pos c3]
    obtain ⟨e1, e2, e3⟩ := end_is h1
    rw [b2] at b3 b4 ⊢
    simp only [Option.some.injEq] at h
    exact ⟨h0, c2, ⟨b3, b4⟩, h1, by rw [e2]; exact c4, by rw [e3]; exact c5, h.symm⟩
  · cases h

/-- The list, so far: the first i writes; zero values behind them. -/
def WPart (base g m i : Nat) (ws : List (Int × List Int)) (w : World) : Prop :=
  g < w.heap.size ∧ (∀ j, w.frozen? ⟨g, j, none⟩ = false) ∧ (∀ j, i ≤ j → j < m → w.cell? ⟨g, j * 2, none⟩ = some (.int .i64 0) ∧ w.cell? ⟨g, j * 2 + 1, none⟩ = some (.slice none 0 0)) ∧
    ∀ (j : Nat) (a : Int) (zs : List Int), j < i → ws[j]? = some (a, zs) → w.cell? ⟨g, j * 2, none⟩ = some (.int .i64 a) ∧ I64 a ∧ ∃ db doff cap, w.cell? ⟨g, j * 2 + 1, none⟩ = some (.slice (some ⟨db, doff, none⟩) 64 cap) ∧ (base ≤ db ∧ db ≠ g) ∧ Arg w (some ⟨db, doff, none⟩) 64 cap zs

theorem WPart.later {base g m i : Nat} {ws : List (Int × List Int)} {w wx : World} (h : WPart base g m i ws w) (hb : Below w.heap.size w wx) : WPart base g m i ws wx := by
  obtain ⟨h1, h2, h3, h4⟩ := h
  refine ⟨Nat.lt_of_lt_of_le h1 hb.size, fun j => ?_, fun j hj hm => ?_, fun j a zs hj hz => ?_⟩
  · rw [hb.frozen (p := ⟨g, j, none⟩) h1]; exact h2 j
  · obtain ⟨c1, c2⟩ := h3 j hj hm
    exact ⟨cell_later hb c1, cell_later hb c2⟩
  · obtain ⟨c1, c2, db, doff, cap, c3, c4, c5⟩ := h4 j a zs hj hz
    exact ⟨cell_later hb c1, c2, db, doff, cap, cell_later hb c3, c4, c5.later hb⟩

theorem WPart.put {base g m i : Nat} {ws : List (Int × List Int)} {w : World} {a : Int} {zs : List Int} {db doff cap : Nat} (h : WPart base g m i ws w) (hi : i < m) (ha : I64 a) (hw : ws[i]? = some (a, zs)) (hdb : base ≤ db ∧ db ≠ g) (hA : Arg w (some ⟨db, doff, none⟩) 64 cap zs) :
    WPart base g m (i + 1) ws ((w.setCell ⟨g, i * 2, none⟩ (.int .i64 a)).setCell ⟨g, i * 2 + 1, none⟩ (.slice (some ⟨db, doff, none⟩) 64 cap)) := by
  obtain ⟨h1, h2, h3, h4⟩ := h
  have hk : Keeps g w ((w.setCell ⟨g, i * 2, none⟩ (.int .i64 a)).setCell ⟨g, i * 2 + 1, none⟩ (.slice (some ⟨db, doff, none⟩) 64 cap)) := (Keeps.set _ ⟨g, i * 2, none⟩ _).trans (Keeps.set _ ⟨g, i * 2 + 1, none⟩ _)
  have hoff : ∀ k, k ≠ i * 2 → k ≠ i * 2 + 1 → ((w.setCell ⟨g, i * 2, none⟩ (.int .i64 a)).setCell ⟨g, i * 2 + 1, none⟩ (.slice (some ⟨db, doff, none⟩) 64 cap)).cell? ⟨g, k, none⟩ = w.cell? ⟨g, k, none⟩ := fun k e1 e2 => by
    rw [World.cell?_setCell_other (h := by intro e; exact e2 (congrArg Addr.off e).symm), World.cell?_setCell_other (h := by intro e; exact e1 (congrArg Addr.off e).symm)]
  obtain ⟨z1, z2⟩ := h3 i (Nat.le_refl _) hi
  refine ⟨by rw [hk.1]; exact h1, fun j => by simpa using h2 j, fun j hj hm => ?_, fun j b ys hj hz => ?_⟩
  · rw [hoff _ (by omega) (by omega), hoff _ (by omega) (by omega)]
    exact h3 j (by omega) hm
  · by_cases hji : j = i
    · subst hji
      rw [hw] at hz
      cases hz
      refine ⟨?_, ha, db, doff, cap, ?_, hdb, arg_keeps hA hk hdb.2⟩
      · rw [World.cell?_setCell_other (h := by intro e; have := congrArg Addr.off e; simp only at this; omega)]
        exact World.cell?_setCell_same w _ _ z1
      · have e : (w.setCell ⟨g, j * 2, none⟩ (.int .i64 a)).cell? ⟨g, j * 2 + 1, none⟩ = some (.slice none 0 0) := by
          rw [World.cell?_setCell_other (h := by intro e; have := congrArg Addr.off e; simp only at this; omega)]
          exact z2
        exact World.cell?_setCell_same _ _ _ e
    · obtain ⟨c1, c2, db', doff', cap', c3, c4, c5⟩ := h4 j b ys (by omega) hz
      refine ⟨by rw [hoff _ (by omega) (by omega)]; exact c1, c2, db', doff', cap', by rw [hoff _ (by omega) (by omega)]; exact c3, c4, arg_keeps c5 hk c4.2⟩

theorem WPart.win {base g m : Nat} {ws : List (Int × List Int)} {w : World} (h : WPart base g m m ws w) (hl : ws.length = m) (hm : m ≤ 1000) (hg : base ≤ g) : WIn (fun k => base ≤ k ∧ k < w.heap.size) w (some ⟨g, 0, none⟩) m ws := by
  obtain ⟨h1, h2, h3, h4⟩ := h
  refine ⟨hl, by omega, Or.inr ⟨g, 0, rfl, ⟨hg, h1⟩, fun j a zs hj => ?_⟩⟩
  have hjm : j < m := by rw [← hl]; exact (List.getElem?_eq_some_iff.1 hj).1
  obtain ⟨c1, c2, db, doff, cap, c3, c4, c5⟩ := h4 j a zs hjm hj
  rw [Nat.zero_add]
  obtain ⟨b', o', he, hc⟩ := c5.1.2.2.2.resolve_left (by decide)
  simp only [Option.some.injEq, Addr.mk.injEq, and_true] at he
  obtain ⟨rfl, rfl⟩ := he
  exact ⟨c1, c2, db, doff, cap, c3, ⟨c4.1, World.block_lt_of_cell? _ _ (hc 0 (by decide))⟩, c5⟩

theorem run_make_wrs (w : World) (K : Nat) (hK : K ≤ 1000) : (Instr.makeSlice 27 (.int .i64 (K : Int)) (.int .i64 (K : Int))).run Try.prog w =
    .ok (.slice (some ⟨w.heap.size, 0, none⟩) K K) (w.alloc (.cells (madeCells #[.int .i64 0, .slice none 0 0] (K * 2)) 48)) := by
  have hinfo : (Try.prog.info? 48).map (fun i => (i.zero, i.size, i.bytes)) = some (some (.agg #[.int .i64 0, .slice none 0 0]), 2, 32) := by kernel_rfl
  obtain ⟨i0, hi, hz0, hz1, hz2⟩ := info_parts hinfo
  have h := run_make (P := Try.prog) w 27 48 i0 (.agg #[.int .i64 0, .slice none 0 0]) Try.underlying27 hi hz0 .i64 .i64 (K : Int) (K : Int) (by omega) (Int.le_refl _) (by rw [hz2]; omega) (by omega)
  simpa [hz1, Value.cells] using h
theorem made_wr (K j : Nat) (h : j < K) : (madeCells #[Value.int .i64 0, .slice none 0 0] (K * 2))[j * 2]? = some (.int .i64 0) ∧ (madeCells #[Value.int .i64 0, .slice none 0 0] (K * 2))[j * 2 + 1]? = some (.slice none 0 0) := by
  constructor
  · simp [madeCells, show j * 2 < K * 2 by omega]
  · simp [madeCells, show j * 2 + 1 < K * 2 by omega, show (j * 2 + 1) % 2 = 1 by omega]
theorem WPart.made (w : World) (K : Nat) (ws : List (Int × List Int)) : WPart w.heap.size w.heap.size K 0 ws (w.alloc (.cells (madeCells #[.int .i64 0, .slice none 0 0] (K * 2)) 48)) := by
  refine ⟨by simp, fun j => by rw [World.frozen?_alloc_mark]; simp, fun j _ hj => ?_, fun j _ _ h => by omega⟩
  rw [World.cell?_alloc_new, World.cell?_alloc_new]
  exact made_wr K j hj

def NoTx (w : World) (e : Ending) (w' : World) : Prop := e = .returned (.tuple #[.slice none 0 0, .bool false]) ∧ Below w.heap.size w w'

/-- A log's block that stands whole, and its first words. -/
theorem LogAt.lies {w : World} {B b off cap : Nat} {Z : List (List Int)} (h : LogAt w B b off cap Z) (k : Nat) (hk : k ≤ 1000) {x : Int} (hx : x = (k : Int)) :
    Calls Try.prog 72 #[.int .i64 x, .pointer (some ⟨B, 0, none⟩)] w fun e w' => (∃ ad c, e = .returned (.slice (some ad) (64 : Nat) c) ∧ Arg w' (some ad) 64 c (Z.getD (k % 40) [])) ∧ w = w' := by
  subst hx
  exact lies_any k hk h

end Go.Proofs.Ytbnepjojfaeggaa
