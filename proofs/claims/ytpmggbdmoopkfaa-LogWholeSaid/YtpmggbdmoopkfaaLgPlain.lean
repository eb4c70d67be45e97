/-
  Said here: the blocks of a log in the words of package field's Text, Set, Get and Seal (textOut, setOut, getOut, sealOut).
  No conditions but those that each theorem names. Nothing of the program is read here.
-/
import Derived.Test.YtpmggbdmoopkfaaLogF
import Derived.Test.YtpmggbdmoopkfaaSupEnc
import Derived.Test.YtpmggbdmoopkfaaInts
namespace Go.Proofs.Ytpmggbdmoopkfaa
open Go.RowKit
set_option linter.unusedVariables false

def begT : List Int := [66, 69, 71, 78]
def endT : List Int := [68, 79, 78, 69]
/-- What start makes. -/
def startL (t : List Int) (seq c : Int) : List Int := setOut (setOut (textOut (List.replicate 64 0) 0 t) 4 4 seq) 8 1 c
/-- The first of the places are put. -/
def putT (L : List Int) (to : List Int) : Nat → List Int
  | 0 => L
  | k + 1 => setOut (putT L to k) (10 + 2 * (k : Int)) 2 (to.getD k 0)

theorem lay_endL (P cs : List Int) (k : Nat) (h : cs.length ≤ k) : lay (P ++ List.replicate k 0) P.length cs = (P ++ cs) ++ List.replicate (k - cs.length) 0 := by
  refine List.ext_getElem? (fun i => ?_)
  by_cases hi : i < P.length + k
  · have hl1 : (lay (P ++ List.replicate k 0) P.length cs).length = P.length + k := by rw [lay_length, List.length_append, List.length_replicate]
    have hl2 : ((P ++ cs) ++ List.replicate (k - cs.length) 0).length = P.length + k := by rw [List.length_append, List.length_append, List.length_replicate]; omega
    have e := lay_get cs (P ++ List.replicate k 0) P.length i (by rw [List.length_append, List.length_replicate]; omega)
    rw [List.getD_eq_getElem?_getD, List.getElem?_eq_getElem (by omega)] at e
    rw [List.getElem?_eq_getElem (by omega), List.getElem?_eq_getElem (by omega)]
    simp only [Option.getD_some] at e
    rw [e]
    split
    · next h1 =>
      rw [List.getElem_append_left (by rw [List.length_append]; omega), List.getElem_append_right h1.1, List.getD_eq_getElem?_getD, List.getElem?_eq_getElem (by omega)]
      rfl
    · next h1 =>
      by_cases hp : i < P.length
      · rw [List.getElem_append_left (by rw [List.length_append]; omega), List.getElem_append_left hp, List.getD_eq_getElem?_getD, List.getElem?_append_left hp, List.getElem?_eq_getElem hp]
        rfl
      · rw [List.getElem_append_right (by rw [List.length_append]; omega), List.getElem_replicate, List.getD_eq_getElem?_getD, List.getElem?_append_right (by omega), List.getElem?_replicate, if_pos (by omega)]
        rfl
  · rw [List.getElem?_eq_none (by rw [lay_length, List.length_append, List.length_replicate]; omega), List.getElem?_eq_none (by rw [List.length_append, List.length_append, List.length_replicate]; omega)]

/-- A number that fits, put behind what is there already. -/
theorem put_end (P : List Int) (m k : Nat) (n p : Int) (hp : p = (P.length : Int)) (hl : P.length + m = 64) (h1 : 1 ≤ k) (h2 : k ≤ 4) (h3 : P.length + k ≤ 60) (h4 : 0 ≤ n) (h5 : n < 256 ^ k) :
    setErr 64 p k n = 0 ∧ setOut (P ++ List.replicate m 0) p k n = (P ++ leB n k) ++ List.replicate (m - k) 0 := by
  subst hp
  have hL : (P ++ List.replicate m 0).length = 64 := by rw [List.length_append, List.length_replicate]; exact hl
  have he : setErr 64 (P.length : Int) k n = 0 := setErr_none h1 h2 h3 h4 h5
  refine ⟨he, ?_⟩
  rw [setOut_ok (by rw [hL]; exact he), Int.toNat_natCast, Int.toNat_natCast, putK_lay, lay_endL _ _ _ (by rw [leB_length]; omega), leB_length]

theorem leB_two {n : Int} (h0 : 0 ≤ n) (h : n < 256) : leB n 2 = leB n 1 ++ [0] := by
  show [n / 256 ^ 0 % 256, n / 256 ^ 1 % 256] = [n / 256 ^ 0 % 256, 0]
  have : n / 256 ^ 1 % 256 = 0 := by
    rw [show (256 : Int) ^ 1 = 256 from rfl]
    omega
  rw [this]

theorem text_four (t : List Int) (h : t.length = 4) : textErr 64 0 4 = 0 ∧ textOut (List.replicate 64 0) 0 t = t ++ List.replicate 60 0 := by
  refine ⟨by decide, ?_⟩
  unfold textOut
  rw [h, List.length_replicate, if_pos (by decide)]
  rfl

/-- Text and number, and the count. -/
theorem start_is (t : List Int) (ht : t.length = 4) {seq c : Int} (h1 : 1 ≤ seq ∧ seq ≤ 1073741824) (h2 : 1 ≤ c ∧ c ≤ 20) :
    setErr 64 4 4 seq = 0 ∧ setErr 64 8 1 c = 0 ∧ (textOut (List.replicate 64 0) 0 t).length = 64 ∧ (setOut (textOut (List.replicate 64 0) 0 t) 4 4 seq).length = 64 ∧ startL t seq c = (t ++ leB seq 4 ++ leB c 1) ++ List.replicate 55 0 := by
  have e0 := (text_four t ht).2
  have p1 := put_end t 60 4 seq 4 (by rw [ht]; rfl) (by omega) (by decide) (by decide) (by omega) (by omega) (by show seq < 4294967296; omega)
  have hl : (t ++ leB seq 4).length = 8 := by rw [List.length_append, leB_length, ht]
  have p2 := put_end (t ++ leB seq 4) 56 1 c 8 (by rw [hl]; rfl) (by omega) (by decide) (by decide) (by omega) (by omega) (by show c < 256; omega)
  unfold startL
  rw [e0]
  have e1 : setOut (t ++ List.replicate 60 0) 4 4 seq = (t ++ leB seq 4) ++ List.replicate 56 0 := p1.2
  rw [e1]
  refine ⟨p1.1, p2.1, by rw [List.length_append, List.length_replicate, ht], by rw [List.length_append, List.length_replicate, hl], p2.2⟩

theorem put_is {seq : Int} {to : List Int} (h1 : 1 ≤ seq ∧ seq ≤ 1073741824) (h2 : 1 ≤ to.length ∧ to.length ≤ 20) (h3 : ∀ t ∈ to, 0 ≤ t ∧ t < 480) :
    ∀ k, k ≤ to.length → putT (startL begT seq to.length) to k = (begT ++ leB seq 4 ++ leB to.length 2 ++ toL (to.take k)) ++ List.replicate (54 - 2 * k) 0 ∧ (putT (startL begT seq to.length) to k).length = 64 ∧ (k < to.length → setErr 64 (10 + 2 * (k : Int)) 2 (to.getD k 0) = 0)
  | 0, _ => by
    have hs := (start_is begT rfl h1 (c := to.length) ⟨by omega, by omega⟩).2.2.2.2
    have e : putT (startL begT seq to.length) to 0 = (begT ++ leB seq 4 ++ leB to.length 2 ++ toL (to.take 0)) ++ List.replicate (54 - 2 * 0) 0 := by
      show startL begT seq to.length = _
      rw [hs, leB_two (by omega) (by omega), List.take_zero]
      show _ = (begT ++ leB seq 4 ++ (leB to.length 1 ++ [0]) ++ []) ++ List.replicate 54 0
      rw [List.append_nil, show List.replicate 55 (0 : Int) = [0] ++ List.replicate 54 0 from rfl]
      simp only [List.append_assoc]
    refine ⟨e, ?_, fun hk => ?_⟩
    · rw [e, List.length_append, List.length_append, List.length_append, List.length_append, leB_length, leB_length, List.length_replicate]
      rfl
    · have hx := h3 (to.getD 0 0) (by rw [List.getD_eq_getElem?_getD, List.getElem?_eq_getElem hk]; exact List.getElem_mem _)
      exact setErr_none (p := 10) (size := 2) (by decide) (by decide) (by decide) hx.1 (by show _ < (65536 : Int); omega)
  | k + 1, hk => by
    obtain ⟨e0, l0, _⟩ := put_is h1 h2 h3 k (by omega)
    have hx := h3 (to.getD k 0) (by rw [List.getD_eq_getElem?_getD, List.getElem?_eq_getElem (by omega)]; exact List.getElem_mem _)
    have hl : (begT ++ leB seq 4 ++ leB to.length 2 ++ toL (to.take k)).length = 10 + 2 * k := by
      rw [List.length_append, List.length_append, List.length_append, leB_length, leB_length, toL_length, List.length_take]
      show 4 + 4 + 2 + _ = _
      omega
    have p := put_end (begT ++ leB seq 4 ++ leB to.length 2 ++ toL (to.take k)) (54 - 2 * k) 2 (to.getD k 0) (10 + 2 * (k : Int)) (by rw [hl]; omega) (by omega) (by decide) (by decide) (by omega) hx.1 (by show _ < (65536 : Int); omega)
    have ht : toL (to.take (k + 1)) = toL (to.take k) ++ leB (to.getD k 0) 2 := by
      rw [List.take_add_one, List.getElem?_eq_getElem (by omega)]
      unfold toL
      rw [List.flatMap_append, List.getD_eq_getElem?_getD, List.getElem?_eq_getElem (by omega)]
      simp
    have e : putT (startL begT seq to.length) to (k + 1) = (begT ++ leB seq 4 ++ leB to.length 2 ++ toL (to.take (k + 1))) ++ List.replicate (54 - 2 * (k + 1)) 0 := by
      show setOut (putT (startL begT seq to.length) to k) (10 + 2 * (k : Int)) 2 (to.getD k 0) = _
      rw [e0]
      have := p.2
      rw [show ((2 : Nat) : Int) = 2 from rfl] at this
      rw [this, ht, show 54 - 2 * (k + 1) = 54 - 2 * k - 2 by omega]
      simp only [List.append_assoc]
    refine ⟨e, ?_, fun hk2 => ?_⟩
    · rw [e, ht, List.length_append, List.length_replicate, ← List.append_assoc, List.length_append, hl, leB_length]
      omega
    · have hx := h3 (to.getD (k + 1) 0) (by rw [List.getD_eq_getElem?_getD, List.getElem?_eq_getElem hk2]; exact List.getElem_mem _)
      have := setErr_none (p := 10 + 2 * (k + 1)) (size := 2) (by decide) (by decide) (by omega) hx.1 (show to.getD (k + 1) 0 < (65536 : Int) by omega)
      rw [show ((10 + 2 * (k + 1) : Nat) : Int) = 10 + 2 * ((k + 1 : Nat) : Int) by omega] at this
      exact this

theorem seal_zeros (P : List Int) (m : Nat) (h : P.length + m = 64) (hP : P.length ≤ 60) : sealOut sumS (P ++ List.replicate m 0) = sealOf sumS P := by
  have hl : (P ++ List.replicate m 0).length = 64 := by rw [List.length_append, List.length_replicate]; exact h
  unfold sealOut
  rw [if_pos hl]
  refine sealed_of hP hl (fun k hk => ?_)
  rw [List.getD_eq_getElem?_getD, List.getD_eq_getElem?_getD]
  by_cases hk2 : k < P.length
  · rw [List.getElem?_append_left hk2]
  · rw [List.getElem?_append_right (by omega), List.getElem?_replicate, if_pos (by omega), List.getElem?_eq_none (show P.length ≤ k by omega)]
    rfl

/-- A sound descriptor's block, and a last block. -/
theorem made_beg {d : PDesc} (h : soundD d = true) : sealOut sumS (putT (startL begT d.seq d.to.length) d.to d.to.length) = begB d := by
  obtain ⟨⟨h1, h2, h3, h4⟩, h5, _⟩ := soundD_parts h
  rw [(put_is ⟨h3, h4⟩ ⟨h1, h2⟩ h5 d.to.length (Nat.le_refl _)).1, List.take_length]
  show sealOut sumS (begL d ++ _) = _
  exact seal_zeros _ _ (by rw [begL_length]; omega) (by rw [begL_length]; omega)
theorem made_end {seq c : Int} (h : okEnd seq c = true) : sealOut sumS (startL endT seq c) = endB seq c := by
  have h' : 1 ≤ seq ∧ seq ≤ 1073741824 ∧ 1 ≤ c ∧ c ≤ 20 := of_decide_eq_true h
  rw [(start_is endT rfl ⟨h'.1, h'.2.1⟩ h'.2.2).2.2.2.2]
  show sealOut sumS (endL seq c ++ _) = _
  exact seal_zeros _ _ (by rw [endL_length]) (by rw [endL_length]; decide)

/-! ### What reading makes of any bytes -/

def toG (zs : List Int) (i : Nat) : List Int := (List.range i).map fun (k : Nat) => getOut zs (10 + 2 * (k : Int)) 2
def getT (zs : List Int) : PDesc := ⟨getOut zs 4 4, toG zs (getOut zs 8 1).toNat⟩

theorem toG_length (zs : List Int) (i : Nat) : (toG zs i).length = i := by unfold toG; rw [List.length_map, List.length_range]

theorem got_ends {zs : List Int} (h : zs.length = 64) : getOut zs 4 4 = leN zs 4 4 ∧ getOut zs 8 1 = zs.getD 8 0 := by
  refine ⟨getOut_64 (p := 4) (k := 4) h (by decide) (by decide) (by decide), ?_⟩
  rw [← leN1]
  exact getOut_64 (p := 8) (k := 1) h (by decide) (by decide) (by decide)
theorem got_beg {zs : List Int} (h : zs.length = 64) (hc : zs.getD 8 0 ≤ 20) : getT zs = readD zs := by
  obtain ⟨e1, e2⟩ := got_ends h
  unfold getT readD
  rw [e1, e2]
  congr 1
  unfold toG
  apply List.map_congr_left
  intro i hi
  have hi := List.mem_range.1 hi
  rw [show (10 + 2 * (i : Int)) = ((10 + 2 * i : Nat) : Int) by omega]
  exact getOut_64 (p := 10 + 2 * i) (k := 2) h (by decide) (by decide) (by omega)

theorem getC_in {zs : List Int} (hz : ∀ z ∈ zs, 0 ≤ z ∧ z ≤ 255) : 0 ≤ getOut zs 8 1 ∧ getOut zs 8 1 ≤ 255 := by
  by_cases h : zs.length = 64
  · rw [(got_ends h).2, List.getD_eq_getElem?_getD, List.getElem?_eq_getElem (by omega)]
    exact hz _ (List.getElem_mem _)
  · rw [getOut_no h]; decide
theorem getS_in {zs : List Int} (hz : ∀ z ∈ zs, 0 ≤ z ∧ z ≤ 255) (p : Int) (k : Nat) (hk : k ≤ 4) : 0 ≤ getOut zs p k ∧ getOut zs p k < 4294967296 := by
  unfold getOut
  split
  · next h =>
    have ho := fErr_ok h
    have := leN_four hz p.toNat k (by omega) hk
    rw [Int.toNat_natCast]
    exact this
  · decide

/-- The three ways of reading. -/
theorem beg_ways (zs : List Int) (hz : ∀ z ∈ zs, 0 ≤ z ∧ z ≤ 255) : (soundD (getT zs) = true ∧ begB (getT zs) = zs ∧ getBeg zs = getT zs ∧ getBegErr zs = 0) ∨ (soundD (getT zs) = true ∧ begB (getT zs) ≠ zs ∧ getBeg zs = ⟨0, []⟩ ∧ getBegErr zs = 2) ∨ (soundD (getT zs) = false ∧ getBeg zs = ⟨0, []⟩ ∧ getBegErr zs = 2) := by
  by_cases h : zs.length = 64 ∧ zs.getD 8 0 ≤ 20
  · rw [got_beg h.1 h.2]
    unfold getBeg getBegErr isBeg
    rw [decide_eq_true h, Bool.true_and]
    cases hs : soundD (readD zs) with
    | false => right; right; exact ⟨rfl, rfl, rfl⟩
    | true =>
      by_cases he : begB (readD zs) = zs
      · left; rw [decide_eq_true he]; exact ⟨rfl, he, rfl, rfl⟩
      · right; left; rw [decide_eq_false he]; exact ⟨rfl, he, rfl, rfl⟩
  · right; right
    have hi : isBeg zs = false := by unfold isBeg; rw [decide_eq_false h]; rfl
    refine ⟨?_, by unfold getBeg; rw [hi]; rfl, by unfold getBegErr; rw [hi]; rfl⟩
    cases hs : soundD (getT zs) with
    | false => rfl
    | true =>
      have hp := (soundD_parts hs).1
      have hl : (getT zs).to.length = (getOut zs 8 1).toNat := toG_length _ _
      by_cases h64 : zs.length = 64
      · exact absurd ⟨h64, by rw [← (got_ends h64).2]; omega⟩ h
      · rw [getOut_no h64] at hl
        rw [hl] at hp
        exact absurd hp.1 (by decide)
theorem end_ways (zs : List Int) : (okEnd (getOut zs 4 4) (getOut zs 8 1) = true ∧ endB (getOut zs 4 4) (getOut zs 8 1) = zs ∧ getEndSeq zs = getOut zs 4 4 ∧ getEndCount zs = getOut zs 8 1 ∧ getEndErr zs = 0) ∨ (okEnd (getOut zs 4 4) (getOut zs 8 1) = true ∧ endB (getOut zs 4 4) (getOut zs 8 1) ≠ zs ∧ getEndSeq zs = 0 ∧ getEndCount zs = 0 ∧ getEndErr zs = 2) ∨
    (okEnd (getOut zs 4 4) (getOut zs 8 1) = false ∧ getEndSeq zs = 0 ∧ getEndCount zs = 0 ∧ getEndErr zs = 2) := by
  by_cases h : zs.length = 64
  · rw [(got_ends h).1, (got_ends h).2]
    unfold getEndSeq getEndCount getEndErr isEnd
    rw [decide_eq_true h, Bool.true_and]
    cases hs : okEnd (leN zs 4 4) (zs.getD 8 0) with
    | false => right; right; exact ⟨rfl, rfl, rfl, rfl⟩
    | true =>
      by_cases he : endB (leN zs 4 4) (zs.getD 8 0) = zs
      · left; rw [decide_eq_true he]; exact ⟨rfl, he, rfl, rfl, rfl⟩
      · right; left; rw [decide_eq_false he]; exact ⟨rfl, he, rfl, rfl, rfl⟩
  · right; right
    have hi : isEnd zs = false := by unfold isEnd; rw [decide_eq_false h]; rfl
    unfold getEndSeq getEndCount getEndErr
    rw [hi, getOut_no h, getOut_no h]
    exact ⟨by decide, rfl, rfl, rfl⟩

theorem begB_bytes (d : PDesc) : ∀ z ∈ begB d, 0 ≤ z ∧ z ≤ 255 := sealOf_bytes (begL_bytes d)
theorem endB_bytes (s c : Int) : ∀ z ∈ endB s c, 0 ≤ z ∧ z ≤ 255 := sealOf_bytes (endL_bytes s c)

end Go.Proofs.Ytpmggbdmoopkfaa
