/-
  Said here: blocks of a log in plain words: a transaction's first block, its last one, what any bytes are as these; what was written is read as it was; no block is both.
  No conditions but those that each theorem names. Nothing of the program is read here.
-/
import Derived.Test.YtpmggbdmoopkfaaSealShort
namespace Go.Proofs.Ytpmggbdmoopkfaa
set_option linter.unusedVariables false
set_option linter.unusedSimpArgs false

/-- A descriptor: its number, and the blocks that are written. -/
structure PDesc where
  seq : Int
  to : List Int
  deriving DecidableEq

/-- May a transaction write the block? -/
def homeB (n : Int) : Bool := decide (0 ≤ n ∧ n < 480 ∧ n ≠ 1 ∧ (n < 19 ∨ 59 ≤ n))
def soundD (d : PDesc) : Bool := decide (1 ≤ d.to.length ∧ d.to.length ≤ 20 ∧ 1 ≤ d.seq ∧ d.seq ≤ 1073741824) && (d.to.all homeB && decide d.to.Nodup)
def toL (to : List Int) : List Int := to.flatMap fun t => leB t 2
def begL (d : PDesc) : List Int := [66, 69, 71, 78] ++ leB d.seq 4 ++ leB d.to.length 2 ++ toL d.to
def begB (d : PDesc) : List Int := sealOf sumS (begL d)
def okEnd (seq c : Int) : Bool := decide (1 ≤ seq ∧ seq ≤ 1073741824 ∧ 1 ≤ c ∧ c ≤ 20)
def endL (seq c : Int) : List Int := [68, 79, 78, 69] ++ leB seq 4 ++ leB c 1
def endB (seq c : Int) : List Int := sealOf sumS (endL seq c)

def readD (zs : List Int) : PDesc := ⟨leN zs 4 4, (List.range (zs.getD 8 0).toNat).map fun i => leN zs (10 + 2 * i) 2⟩
def isBeg (zs : List Int) : Bool := decide (zs.length = 64 ∧ zs.getD 8 0 ≤ 20) && (soundD (readD zs) && decide (begB (readD zs) = zs))
def isEnd (zs : List Int) : Bool := decide (zs.length = 64) && (okEnd (leN zs 4 4) (zs.getD 8 0) && decide (endB (leN zs 4 4) (zs.getD 8 0) = zs))

/-- What Begin, End, Begins and Ends answer. -/
def begOut (d : PDesc) : List Int := if soundD d = true then begB d else []
def begErr (d : PDesc) : Int := if soundD d = true then 0 else 2
def endOut (seq c : Int) : List Int := if okEnd seq c = true then endB seq c else []
def endErr (seq c : Int) : Int := if okEnd seq c = true then 0 else 2
def getBeg (zs : List Int) : PDesc := if isBeg zs = true then readD zs else ⟨0, []⟩
def getBegErr (zs : List Int) : Int := if isBeg zs = true then 0 else 2
def getEndSeq (zs : List Int) : Int := if isEnd zs = true then leN zs 4 4 else 0
def getEndCount (zs : List Int) : Int := if isEnd zs = true then zs.getD 8 0 else 0
def getEndErr (zs : List Int) : Int := if isEnd zs = true then 0 else 2

theorem soundD_parts {d : PDesc} (h : soundD d = true) : (1 ≤ d.to.length ∧ d.to.length ≤ 20 ∧ 1 ≤ d.seq ∧ d.seq ≤ 1073741824) ∧ (∀ t ∈ d.to, 0 ≤ t ∧ t < 480) ∧ d.to.Nodup := by
  unfold soundD at h
  rw [Bool.and_eq_true, Bool.and_eq_true, decide_eq_true_eq, decide_eq_true_eq] at h
  refine ⟨h.1, fun t ht => ?_, h.2.2⟩
  have := of_decide_eq_true (List.all_eq_true.1 h.2.1 t ht)
  omega

theorem toL_length : ∀ to : List Int, (toL to).length = 2 * to.length
  | [] => rfl
  | t :: r => by
    show (leB t 2 ++ toL r).length = 2 * (r.length + 1)
    rw [List.length_append, leB_length, toL_length r]
    omega
theorem begL_length (d : PDesc) : (begL d).length = 10 + 2 * d.to.length := by
  unfold begL
  rw [List.length_append, List.length_append, List.length_append, leB_length, leB_length, toL_length]
  rfl
theorem endL_length (seq c : Int) : (endL seq c).length = 9 := by
  unfold endL
  rw [List.length_append, List.length_append, leB_length, leB_length]
  rfl
theorem toL_bytes (to : List Int) : ∀ z ∈ toL to, 0 ≤ z ∧ z ≤ 255 := by
  intro z hz
  obtain ⟨t, _, ht⟩ := List.mem_flatMap.1 hz
  exact leB_bytes _ _ z ht
theorem begL_bytes (d : PDesc) : ∀ z ∈ begL d, 0 ≤ z ∧ z ≤ 255 := by
  intro z hz
  unfold begL at hz
  rcases List.mem_append.1 hz with hz | hz
  · rcases List.mem_append.1 hz with hz | hz
    · rcases List.mem_append.1 hz with hz | hz
      · simp only [List.mem_cons, List.not_mem_nil, or_false] at hz; omega
      · exact leB_bytes _ _ z hz
    · exact leB_bytes _ _ z hz
  · exact toL_bytes _ z hz
theorem endL_bytes (seq c : Int) : ∀ z ∈ endL seq c, 0 ≤ z ∧ z ≤ 255 := by
  intro z hz
  unfold endL at hz
  rcases List.mem_append.1 hz with hz | hz
  · rcases List.mem_append.1 hz with hz | hz
    · simp only [List.mem_cons, List.not_mem_nil, or_false] at hz; omega
    · exact leB_bytes _ _ z hz
  · exact leB_bytes _ _ z hz

/-- A number in the midst of bytes is read as it was. -/
theorem mid_num {a b zs : List Int} {n : Int} {k p : Nat} (h0 : 0 ≤ n) (hn : n < 256 ^ k) (hp : a.length = p) (hz : ∀ j, j < k → zs.getD (p + j) 0 = (a ++ leB n k ++ b).getD (p + j) 0) : leN zs p k = n := by
  rw [leN_of_eq (ys := leB n k) (q := 0) k (fun j hj => ?_), leN_leB h0, Int.emod_eq_of_lt h0 hn]
  rw [hz j hj, List.append_assoc, List.getD_eq_getElem?_getD, List.getElem?_append_right (by omega), List.getElem?_append_left (by rw [leB_length]; omega), ← List.getD_eq_getElem?_getD, Nat.zero_add]
  congr 1
  omega

theorem begB_at {d : PDesc} (h : d.to.length ≤ 20) {k : Nat} (hk : k < 10 + 2 * d.to.length) : (begB d).getD k 0 = (begL d).getD k 0 := seal_short_at (by rw [begL_length]; omega) (by rw [begL_length]; exact hk)
theorem endB_at (seq c : Int) {k : Nat} (hk : k < 9) : (endB seq c).getD k 0 = (endL seq c).getD k 0 := seal_short_at (by rw [endL_length]; decide) (by rw [endL_length]; exact hk)
theorem begB_length {d : PDesc} (h : d.to.length ≤ 20) : (begB d).length = 64 := seal_short_length (by rw [begL_length]; omega)
theorem endB_length (seq c : Int) : (endB seq c).length = 64 := seal_short_length (by rw [endL_length]; decide)

theorem toL_split : ∀ (to : List Int) (i : Nat) (t : Int), to[i]? = some t → ∃ a b, toL to = a ++ leB t 2 ++ b ∧ a.length = 2 * i
  | x :: r, 0, t, h => by
    cases h
    exact ⟨[], toL r, rfl, rfl⟩
  | x :: r, i + 1, t, h => by
    obtain ⟨a, b, e, hl⟩ := toL_split r i t h
    refine ⟨leB x 2 ++ a, b, ?_, by rw [List.length_append, leB_length, hl]; omega⟩
    show leB x 2 ++ toL r = _
    rw [e]
    simp only [List.append_assoc]

theorem read_beg {d : PDesc} (h : soundD d = true) : readD (begB d) = d := by
  obtain ⟨⟨h1, h2, h3, h4⟩, h5, _⟩ := soundD_parts h
  have hs : leN (begB d) 4 4 = d.seq := mid_num (a := [66, 69, 71, 78]) (b := leB d.to.length 2 ++ toL d.to) (by omega) (by show d.seq < 4294967296; omega) rfl (fun j hj => by
    rw [begB_at h2 (by omega)]
    unfold begL
    simp only [List.append_assoc])
  have hc : (begB d).getD 8 0 = (d.to.length : Int) := by
    rw [begB_at h2 (by omega)]
    have e : begL d = ([66, 69, 71, 78] ++ leB d.seq 4) ++ ((((d.to.length : Int) / 256 ^ 0 % 256) :: [((d.to.length : Int) / 256 ^ 1 % 256)]) ++ toL d.to) := by
      unfold begL
      simp only [List.append_assoc]
      rfl
    rw [e, List.getD_eq_getElem?_getD, List.getElem?_append_right (by rw [List.length_append, leB_length]; decide), List.length_append, leB_length]
    show ((d.to.length : Int) / 256 ^ 0 % 256) = _
    omega
  unfold readD
  rw [hs, hc]
  obtain ⟨seq, to⟩ := d
  simp only at h1 h2 h5 ⊢
  congr 1
  rw [Int.toNat_natCast]
  apply List.ext_getElem?
  intro i
  by_cases hi : i < to.length
  · rw [List.getElem?_map, List.getElem?_range hi, List.getElem?_eq_getElem hi]
    obtain ⟨t, ht⟩ : ∃ t, to[i]? = some t := ⟨_, List.getElem?_eq_getElem hi⟩
    obtain ⟨a, b, e, hl⟩ := toL_split to i t ht
    have hb := h5 t (List.mem_of_getElem? ht)
    have : leN (begB ⟨seq, to⟩) (10 + 2 * i) 2 = t := mid_num (a := [66, 69, 71, 78] ++ leB seq 4 ++ leB to.length 2 ++ a) (b := b) hb.1 (by show t < 65536; omega) (by rw [List.length_append, List.length_append, List.length_append, leB_length, leB_length, hl]; rfl) (fun j hj => by
      rw [begB_at (d := ⟨seq, to⟩) h2 (by show 10 + 2 * i + j < 10 + 2 * to.length; omega)]
      unfold begL
      simp only [e, List.append_assoc])
    show some (leN _ (10 + 2 * i) 2) = _
    rw [this, ← ht, List.getElem?_eq_getElem hi]
  · rw [List.getElem?_eq_none (by simp; omega), List.getElem?_eq_none (by omega)]

theorem is_beg {d : PDesc} (h : soundD d = true) : isBeg (begB d) = true := by
  obtain ⟨⟨h1, h2, h3, h4⟩, h5, _⟩ := soundD_parts h
  have hr := read_beg h
  have hc : (begB d).getD 8 0 ≤ 20 := by
    have h8 : ((begB d).getD 8 0).toNat = d.to.length := by
      have := congrArg (fun x => x.to.length) hr
      simpa [readD] using this
    omega
  unfold isBeg
  rw [hr, h, decide_eq_true rfl, decide_eq_true ⟨begB_length h2, hc⟩]
  rfl

theorem read_end {seq c : Int} (h : okEnd seq c = true) : leN (endB seq c) 4 4 = seq ∧ (endB seq c).getD 8 0 = c := by
  have h' : 1 ≤ seq ∧ seq ≤ 1073741824 ∧ 1 ≤ c ∧ c ≤ 20 := of_decide_eq_true h
  refine ⟨mid_num (a := [68, 79, 78, 69]) (b := leB c 1) (by omega) (by show seq < 4294967296; omega) rfl (fun j hj => by
    rw [endB_at _ _ (by omega)]
    unfold endL
    rfl), ?_⟩
  rw [endB_at _ _ (by decide)]
  show c / 256 ^ 0 % 256 = c
  omega
theorem is_end {seq c : Int} (h : okEnd seq c = true) : isEnd (endB seq c) = true := by
  obtain ⟨h1, h2⟩ := read_end h
  unfold isEnd
  rw [h1, h2, h, decide_eq_true rfl, decide_eq_true (endB_length seq c)]
  rfl

theorem isBeg_block {zs : List Int} (h : isBeg zs = true) : zs.length = 64 ∧ soundD (readD zs) = true ∧ begB (readD zs) = zs := by
  unfold isBeg at h
  rw [Bool.and_eq_true, Bool.and_eq_true, decide_eq_true_eq, decide_eq_true_eq] at h
  exact ⟨h.1.1, h.2.1, h.2.2⟩
theorem isEnd_block {zs : List Int} (h : isEnd zs = true) : zs.length = 64 ∧ okEnd (leN zs 4 4) (zs.getD 8 0) = true ∧ endB (leN zs 4 4) (zs.getD 8 0) = zs := by
  unfold isEnd at h
  rw [Bool.and_eq_true, Bool.and_eq_true, decide_eq_true_eq, decide_eq_true_eq] at h
  exact ⟨h.1, h.2.1, h.2.2⟩
theorem beg_first {zs : List Int} (h : isBeg zs = true) : zs.getD 0 0 = 66 := by
  obtain ⟨_, h2, h3⟩ := isBeg_block h
  rw [← h3, begB_at (soundD_parts h2).1.2.1 (by omega)]
  rfl
theorem end_first {zs : List Int} (h : isEnd zs = true) : zs.getD 0 0 = 68 := by
  obtain ⟨_, h2, h3⟩ := isEnd_block h
  rw [← h3, endB_at _ _ (by decide)]
  rfl
theorem beg_not_end {zs : List Int} (h : isBeg zs = true) : isEnd zs = false := by
  cases hb : isEnd zs with
  | false => rfl
  | true => have h1 := beg_first h; rw [end_first hb] at h1; exact absurd h1 (by decide)
theorem end_not_beg {zs : List Int} (h : isEnd zs = true) : isBeg zs = false := by
  cases hb : isBeg zs with
  | false => rfl
  | true => have h1 := end_first h; rw [beg_first hb] at h1; exact absurd h1 (by decide)
theorem zero_not {zs : List Int} (h : zs.getD 0 0 = 0) : isBeg zs = false ∧ isEnd zs = false := by
  constructor
  · cases hb : isBeg zs with
    | false => rfl
    | true => rw [beg_first hb] at h; exact absurd h (by decide)
  · cases hb : isEnd zs with
    | false => rfl
    | true => rw [end_first hb] at h; exact absurd h (by decide)

end Go.Proofs.Ytpmggbdmoopkfaa
