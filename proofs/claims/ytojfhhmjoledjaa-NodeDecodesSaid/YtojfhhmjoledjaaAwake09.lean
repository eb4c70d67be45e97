/-
  Proved here: the landed Decode and the document's own read any bytes alike; and the simplest facts that the laws of layer 9 ask hold of the landed node.
  The conditions stand at each theorem.
-/
import Derived.Test.YtojfhhmjoledjaaNRDec2
import Derived.Test.YtojfhhmjoledjaaNDec
import Derived.Test.YtojfhhmjoledjaaNEnc
import Derived.Test.YtojfhhmjoledjaaNSameL
namespace Go.Proofs.Ytojfhhmjoledjaa
open Go.RowKit
set_option linter.unusedVariables false
set_option linter.unusedSimpArgs false

theorem leN_one (zs : List Int) (p : Nat) : leN zs p 1 = zs.getD p 0 := by
  show 0 + zs.getD (p + 0) 0 * 256 ^ 0 = _
  rw [Nat.add_zero, show (256 : Int) ^ 0 = 1 from rfl]
  omega

theorem pad_getD {zs : List Int} (h : zs.length = 32) {k : Nat} (hk : k < 32) : (pad64n zs).getD k 0 = zs.getD k 0 := by
  unfold pad64n
  rw [lay_eq _ _ _ (by show 0 + _ ≤ 64; rw [List.length_take]; omega)]
  rw [List.take_zero, List.nil_append, List.take_of_length_le (by omega), List.getD_eq_getElem?_getD, List.getElem?_append_left (by omega), ← List.getD_eq_getElem?_getD]

theorem getOut_pad {zs : List Int} (h : zs.length = 32) (p k : Nat) (hp : p + k ≤ 32) (hk : 1 ≤ k ∧ k ≤ 4) : getOut (pad64n zs) (p : Int) (k : Int) = leN zs p k := by
  unfold getOut
  rw [pad64n_length]
  have e : fErr 64 (p : Int) (k : Int) = 0 := by
    unfold fErr
    rw [if_pos rfl]
    split <;> omega
  rw [if_pos e]
  exact leN_of_eq k (fun j hj => pad_getD h (by simp only [Int.toNat_natCast]; omega))

theorem bk1 {x : Int} (h : 0 ≤ x ∧ x ≤ 255) : x / 256 ^ 0 % 256 = x := by rw [show (256 : Int) ^ 0 = 1 from rfl]; omega
theorem bk2 {x : Int} (h : 0 ≤ x ∧ x ≤ 65535) : 0 + x / 256 ^ 0 % 256 * 256 ^ 0 + x / 256 ^ 1 % 256 * 256 ^ 1 = x := by rw [show (256 : Int) ^ 0 = 1 from rfl, show (256 : Int) ^ 1 = 256 from rfl]; omega

theorem slots_bytes (n : PNode) (x : List PX) (R : List Int) : rSlots (nodeH n ++ (slotB x ++ R)) = [⟨slotI x 0 / 256 ^ 0 % 256, 0 + slotI x 1 / 256 ^ 0 % 256 * 256 ^ 0 + slotI x 1 / 256 ^ 1 % 256 * 256 ^ 1, slotI x 2 / 256 ^ 0 % 256⟩, ⟨slotI x 3 / 256 ^ 0 % 256, 0 + slotI x 4 / 256 ^ 0 % 256 * 256 ^ 0 + slotI x 4 / 256 ^ 1 % 256 * 256 ^ 1, slotI x 5 / 256 ^ 0 % 256⟩, ⟨slotI x 6 / 256 ^ 0 % 256, 0 + slotI x 7 / 256 ^ 0 % 256 * 256 ^ 0 + slotI x 7 / 256 ^ 1 % 256 * 256 ^ 1, slotI x 8 / 256 ^ 0 % 256⟩] := rfl

theorem slots_back {n : PNode} (hf : n.f = 2) (h3 : n.x.length ≤ 3) (hs : ∀ x ∈ n.x, smallX x) : rSlots (node32 n) = n.x ++ List.replicate (3 - n.x.length) noX := by
  have e : ∃ R, node32 n = nodeH n ++ (slotB n.x ++ R) := by
    unfold node32 node28
    rw [if_pos hf, pad_slots n h3]
    unfold pad
    simp only [List.append_assoc]
    exact ⟨_, rfl⟩
  obtain ⟨R, e⟩ := e
  rw [e, slots_bytes]
  obtain ⟨s0, s1, s2, s3, s4, s5, s6, s7, s8⟩ := slot_fits n.x h3 hs
  rw [bk1 s0, bk2 s1, bk1 s2, bk1 s3, bk2 s4, bk1 s5, bk1 s6, bk2 s7, bk1 s8]
  clear e s0 s1 s2 s3 s4 s5 s6 s7 s8 hs
  generalize n.x = l at *
  match l, h3 with
  | [], _ => rfl
  | [a], _ => rfl
  | [a, b], _ => rfl
  | [a, b, c], _ => rfl
  | _ :: _ :: _ :: _ :: _, h => exact absurd h (by simp)

theorem sound_mem : ∀ (l prev : List PX) (e b : Int), soundFrom prev e b l = true → ∀ x ∈ l, runOk x.f x.c = true ∧ 59 ≤ x.f
  | [], _, _, _, _, x, hx => by cases hx
  | y :: r, prev, e, b, h, x, hx => by
    unfold soundFrom okX at h
    simp only [Bool.and_eq_true, decide_eq_true_eq] at h
    rcases List.mem_cons.1 hx with rfl | hx
    · exact ⟨h.1.1, h.1.2.1⟩
    · exact sound_mem r _ _ _ h.2.2 x hx

theorem sound_two {n : PNode} (h : n.sound = true) (hf : n.f = 2) : n.x.length ≤ 3 ∧ ∀ x ∈ n.x, x ≠ noX ∧ fixX x = x := by
  rcases sound_f h with rfl | ⟨_, hm, _⟩
  · exact absurd hf (by decide)
  · unfold PNode.mapOk at hm
    rw [hf, if_neg (by decide), if_pos rfl] at hm
    simp only [Bool.and_eq_true] at hm
    have hx := hm.2.1
    unfold soundXs at hx
    simp only [Bool.and_eq_true, decide_eq_true_eq] at hx
    refine ⟨hx.1, fun x hm' => ?_⟩
    have h := sound_mem n.x [] 0 0 hx.2 x hm'
    refine ⟨fun e => ?_, ?_⟩
    · rw [e] at h
      exact absurd h.2 (by decide)
    · unfold fixX partA partB
      rw [if_pos h.1, if_pos h.1]

theorem fil_back {X : List PX} {m : Nat} (h : ∀ x ∈ X, x ≠ noX ∧ fixX x = x) : rFil (X ++ List.replicate m noX) = X ∧ gotX (X ++ List.replicate m noX) = X := by
  constructor
  · unfold rFil
    rw [List.filter_append, List.filter_eq_self.2 (fun x hx => by simp [(h x hx).1]), List.filter_eq_nil_iff.2 (fun x hx => by rw [List.eq_of_mem_replicate hx]; simp), List.append_nil]
  · unfold gotX
    have e : ∀ (X : List PX), (∀ x ∈ X, x ≠ noX ∧ fixX x = x) → ((X ++ List.replicate m noX).takeWhile fun x => !decide (x = noX)).map fixX = X := by
      intro X
      induction X with
      | nil =>
        intro _
        cases m with
        | zero => rfl
        | succ m => rfl
      | cons a r ih =>
        intro h
        have ha := h a (by simp)
        rw [List.cons_append, List.takeWhile_cons]
        rw [if_pos (by simp [ha.1]), List.map_cons, ha.2, ih (fun x hx => h x (by simp [hx]))]
    exact e X h

theorem got_head {zs : List Int} (h : zs.length = 32) : gotV (pad64n zs) headPs9 (fun _ => 0) 1 = zs.getD 1 0 := by
  show getOut (pad64n zs) ((1 : Nat) : Int) ((1 : Nat) : Int) = _
  rw [getOut_pad h 1 1 (by decide) (by decide), leN_one]

theorem got_one {zs : List Int} (h : zs.length = 32) (hf : zs.getD 1 0 = 1) : gotN zs = rNode zs := by
  have g : ∀ (p k : Nat), p + k ≤ 32 → 1 ≤ k ∧ k ≤ 4 → getOut (pad64n zs) (p : Int) (k : Int) = leN zs p k := fun p k h1 h2 => getOut_pad h p k h1 h2
  unfold gotN readN readV
  rw [got_head h, hf, show bodyPs 1 = oldPs from rfl]
  unfold rNode
  rw [if_neg (by rw [hf]; decide), ← leN_one zs 0, ← leN_one zs 1]
  rw [← g 0 1 (by decide) (by decide), ← g 1 1 (by decide) (by decide), ← g 2 2 (by decide) (by decide), ← g 4 2 (by decide) (by decide), ← g 6 2 (by decide) (by decide), ← g 8 2 (by decide) (by decide), ← g 10 2 (by decide) (by decide), ← g 12 2 (by decide) (by decide), ← g 14 2 (by decide) (by decide), ← g 16 2 (by decide) (by decide)]
  rfl

theorem got_two {zs : List Int} (h : zs.length = 32) (hf : zs.getD 1 0 = 2) : gotN zs = ⟨zs.getD 0 0, 2, leN zs 2 2, leN zs 4 2, 0, 0, 0, 0, 0, 0, gotX (rSlots zs), leN zs 18 2⟩ := by
  have g : ∀ (p k : Nat), p + k ≤ 32 → 1 ≤ k ∧ k ≤ 4 → getOut (pad64n zs) (p : Int) (k : Int) = leN zs p k := fun p k h1 h2 => getOut_pad h p k h1 h2
  unfold gotN readN readV
  rw [got_head h, hf, show bodyPs 2 = newPs from rfl]
  unfold rSlots
  rw [show (2 : Int) = zs.getD 1 0 from hf.symm]
  rw [← leN_one zs 0, ← leN_one zs 1, ← leN_one zs 6, ← leN_one zs 9, ← leN_one zs 10, ← leN_one zs 13, ← leN_one zs 14, ← leN_one zs 17]
  rw [← g 0 1 (by decide) (by decide), ← g 1 1 (by decide) (by decide), ← g 2 2 (by decide) (by decide), ← g 4 2 (by decide) (by decide), ← g 6 1 (by decide) (by decide), ← g 7 2 (by decide) (by decide), ← g 9 1 (by decide) (by decide), ← g 10 1 (by decide) (by decide), ← g 11 2 (by decide) (by decide), ← g 13 1 (by decide) (by decide), ← g 14 1 (by decide) (by decide), ← g 15 2 (by decide) (by decide), ← g 17 1 (by decide) (by decide), ← g 18 2 (by decide) (by decide)]
  rfl

theorem got_no {zs : List Int} (h : zs.length = 32) (h1 : zs.getD 1 0 ≠ 1) (h2 : zs.getD 1 0 ≠ 2) : gotN zs = ⟨zs.getD 0 0, zs.getD 1 0, leN zs 2 2, leN zs 4 2, 0, 0, 0, 0, 0, 0, [], 0⟩ := by
  have g : ∀ (p k : Nat), p + k ≤ 32 → 1 ≤ k ∧ k ≤ 4 → getOut (pad64n zs) (p : Int) (k : Int) = leN zs p k := fun p k h1 h2 => getOut_pad h p k h1 h2
  have e : bodyPs (zs.getD 1 0) = [] := by unfold bodyPs; rw [if_neg h1, if_neg h2]
  unfold gotN readN readV
  rw [got_head h, e]
  rw [← leN_one zs 0, ← leN_one zs 1]
  rw [← g 0 1 (by decide) (by decide), ← g 1 1 (by decide) (by decide), ← g 2 2 (by decide) (by decide), ← g 4 2 (by decide) (by decide)]
  rfl

theorem no_bytes {zs : List Int} (h : node32 noNode = zs) : ∃ S, zs = List.replicate 28 0 ++ S := ⟨_, by rw [← h]; rfl⟩

theorem sound_other {n : PNode} (h : n.sound = true) (h1 : n.f ≠ 1) (h2 : n.f ≠ 2) : n = noNode := by
  rcases sound_f h with h | ⟨_, _, hf | hf⟩
  · exact h
  · exact absurd hf h1
  · exact absurd hf h2

theorem got32 {zs : List Int} (h : node32 (gotN zs) = zs) : zs.length = 32 := by
  have h3 : (gotN zs).x.length ≤ 3 := by
    unfold gotN readN gotX
    simp only [List.length_map]
    exact (List.takeWhile_sublist _).length_le
  rw [← h]
  unfold node32
  rw [List.length_append, node28_length h3, leB_length]

/-- Are bytes a node, in the one way: then in the other, and the same one. -/
theorem alike {zs : List Int} (hz : ∀ z ∈ zs, 0 ≤ z ∧ z ≤ 255) (h32 : zs.length = 32) : ((gotN zs).sound = true ∧ node32 (gotN zs) = zs ↔ (rNode zs).sound = true ∧ node32 (rNode zs) = zs) ∧ ((gotN zs).sound = true ∧ node32 (gotN zs) = zs → gotN zs = rNode zs) := by
  by_cases h1 : zs.getD 1 0 = 1
  · rw [got_one h32 h1]
    exact ⟨Iff.rfl, fun _ => rfl⟩
  · by_cases h2 : zs.getD 1 0 = 2
    · have hg := got_two h32 h2
      have hr : rNode zs = ⟨zs.getD 0 0, 2, leN zs 2 2, leN zs 4 2, 0, 0, 0, 0, 0, 0, rFil (rSlots zs), leN zs 18 2⟩ := by unfold rNode; rw [if_pos h2]
      have main : ∀ n : PNode, n.f = 2 → n.small → n.sound = true → node32 n = zs → rFil (rSlots zs) = n.x ∧ gotX (rSlots zs) = n.x := fun n hf hn hs he => by
        obtain ⟨h3, hx⟩ := sound_two hs hf
        have hb := slots_back hf h3 (fun x hx => hn.2.2.2.2.2.2.2.2.2.2.2 x hx)
        rw [he] at hb
        rw [hb]
        exact fil_back hx
      have a1 : (gotN zs).sound = true ∧ node32 (gotN zs) = zs → gotN zs = rNode zs := fun h => by
        have m := main (gotN zs) (by rw [hg]) (readN_small (pad64n_bytes hz)) h.1 h.2
        rw [hg, hr, m.1, hg]
      have a2 : (rNode zs).sound = true ∧ node32 (rNode zs) = zs → gotN zs = rNode zs := fun h => by
        have m := main (rNode zs) (by rw [hr]) (rnode_small hz h32) h.1 h.2
        rw [hg, hr, m.2, hr]
      exact ⟨⟨fun h => by rw [← a1 h]; exact h, fun h => by rw [a2 h]; exact h⟩, a1⟩
    · have hg := got_no h32 h1 h2
      have hr : rNode zs = ⟨zs.getD 0 0, zs.getD 1 0, leN zs 2 2, leN zs 4 2, leN zs 6 2, leN zs 8 2, leN zs 10 2, leN zs 12 2, leN zs 14 2, leN zs 16 2, [], 0⟩ := by unfold rNode; rw [if_neg h2]
      have main : ∀ S, zs = List.replicate 28 0 ++ S → gotN zs = noNode ∧ rNode zs = noNode := fun S hS => by
        rw [hg, hr, hS]
        exact ⟨rfl, rfl⟩
      have a1 : (gotN zs).sound = true ∧ node32 (gotN zs) = zs → gotN zs = rNode zs := fun h => by
        have e := sound_other h.1 (by rw [hg]; exact h1) (by rw [hg]; exact h2)
        have h2' := h.2
        rw [e] at h2'
        obtain ⟨S, hS⟩ := no_bytes h2'
        have m := main S hS
        rw [m.1, m.2]
      have a2 : (rNode zs).sound = true ∧ node32 (rNode zs) = zs → gotN zs = rNode zs := fun h => by
        have e := sound_other h.1 (by rw [hr]; exact h1) (by rw [hr]; exact h2)
        have h2' := h.2
        rw [e] at h2'
        obtain ⟨S, hS⟩ := no_bytes h2'
        have m := main S hS
        rw [m.1, m.2]
      exact ⟨⟨fun h => by rw [← a1 h]; exact h, fun h => by rw [a2 h]; exact h⟩, a1⟩

theorem rdec_eq {zs : List Int} (hz : ∀ z ∈ zs, 0 ≤ z ∧ z ≤ 255) : rdecN zs = decN zs ∧ rdecErr zs = decErr zs := by
  by_cases h32 : zs.length = 32
  · have ha := alike hz h32
    have hi : isNodeR zs = isNode zs := by
      rw [Bool.eq_iff_iff]
      unfold isNodeR isNode
      rw [decide_eq_true h32, Bool.true_and]
      simp only [Bool.and_eq_true, decide_eq_true_eq]
      exact ha.1.symm
    unfold rdecN decN rdecErr decErr
    rw [hi]
    refine ⟨?_, rfl⟩
    cases hb : isNode zs with
    | false => rfl
    | true =>
      unfold isNode at hb
      simp only [Bool.and_eq_true, decide_eq_true_eq] at hb
      rw [if_pos rfl, if_pos rfl]
      exact (ha.2 hb).symm
  · have h1 : isNodeR zs = false := by unfold isNodeR; rw [decide_eq_false h32]; rfl
    have h2 : isNode zs = false := by
      rw [Bool.eq_false_iff]
      intro hb
      unfold isNode at hb
      simp only [Bool.and_eq_true, decide_eq_true_eq] at hb
      exact h32 (got32 hb.2)
    unfold rdecN decN rdecErr decErr
    rw [h1, h2]
    exact ⟨rfl, rfl⟩

theorem made_at9 (w : World) (cs : Array Value) (T : TypeId) (j : Nat) (v : Value) (h : cs[j]? = some v) : (w.alloc (.cells cs T)).cell? ⟨w.heap.size, j, none⟩ = some v := by
  rw [World.cell?_alloc_new]
  exact h

def aw09 : PNode := ⟨1, 2, 1, 70, 0, 0, 0, 0, 0, 0, [⟨0, 60, 2⟩], 0⟩
theorem aw_sound : aw09.sound = true := by decide
theorem aw_small : aw09.small := by
  have z : ∀ n : Int, 0 ≤ n → n ≤ 65535 → u16 n := fun n h1 h2 => ⟨h1, h2⟩
  refine ⟨z _ (by decide) (by decide), z _ (by decide) (by decide), z _ (by decide) (by decide), z _ (by decide) (by decide), z _ (by decide) (by decide), z _ (by decide) (by decide), z _ (by decide) (by decide), z _ (by decide) (by decide), z _ (by decide) (by decide), z _ (by decide) (by decide), z _ (by decide) (by decide), fun x hx => ?_⟩
  simp only [aw09, List.mem_singleton] at hx
  subst hx
  unfold smallX smallR
  simp only
  omega
theorem aw_len : (node32 aw09).length = 32 := by
  unfold node32
  rw [List.length_append, node28_length (by decide), leB_length]
theorem aw_bytes : ∃ S, node32 aw09 = [1, 2, 1, 0, 70, 0, 0, 60, 0, 2, 0, 0, 0, 0, 0, 0, 0, 0, 0, 0, 0, 0, 0, 0, 0, 0, 0, 0] ++ S := ⟨_, rfl⟩
theorem aw_got : gotN (node32 aw09) = aw09 := by
  have hl := aw_len
  obtain ⟨S, hS⟩ := aw_bytes
  rw [got_two hl (by rw [hS]; rfl), hS]
  rfl
theorem aw_is : decN (node32 aw09) = aw09 ∧ decErr (node32 aw09) = 0 := by
  have h : isNode (node32 aw09) = true := by
    unfold isNode
    rw [aw_got, aw_sound, decide_eq_true rfl]
    rfl
  unfold decN decErr
  rw [if_pos h, if_pos h, aw_got]
  exact ⟨rfl, rfl⟩

theorem fi_60' : FI 4633641066610819072 60 := by
  have e : (4633641066610819072 : Nat) = floatOfInt .f64 60 := by decide +kernel
  rw [e]; exact fi_ofInt 60 (by decide)
theorem fi_2' : FI 4611686018427387904 2 := by
  have e : (4611686018427387904 : Nat) = floatOfInt .f64 2 := by decide +kernel
  rw [e]; exact fi_ofInt 2 (by decide)

theorem aw_xis (w : World) : XIs (w.alloc (.cells #[.int .i64 0, .complex .f64 4633641066610819072 4611686018427387904] 40)) (some ⟨w.heap.size, 0, none⟩) 1 aw09.x := by
  refine ⟨rfl, by decide, Or.inr ⟨_, _, rfl, fun i x hx => ?_⟩⟩
  match i, hx with
  | 0, hx =>
    have : x = ⟨0, 60, 2⟩ := by simpa [aw09] using hx.symm
    subst this
    exact ⟨made_at9 w _ _ 0 _ rfl, _, made_at9 w _ _ 1 _ rfl, _, _, rfl, fi_60', fi_2'⟩

theorem aw_enc (w : World) {ao : Option Addr} (hX : XIs w ao 1 aw09.x) : Calls Try.prog 9 #[.agg #[.int .i64 1, .int .i64 2, .int .i64 1, .int .i64 70, .int .i64 0, .int .i64 0, .int .i64 0, .int .i64 0, .int .i64 0, .int .i64 0, .slice ao 1 1, .int .i64 0]] w fun e w' => ∃ a3 c3, e = .returned (.tuple #[.slice a3 (32 : Nat) c3, .int .i64 0]) ∧ Arg w' a3 32 c3 (node32 aw09) ∧ Below w.heap.size w w' := by
  have h := nenc_any (cap := 1) aw09 w aw_small hX (by decide)
  refine h.mono ?_
  rintro e w' ⟨v, rfl, hf, hb⟩
  unfold nodeOut nodeErr at *
  rw [if_pos aw_sound] at *
  obtain ⟨ao, cap, rfl, hA, _⟩ := hf
  rw [aw_len] at *
  exact ⟨ao, cap, rfl, hA, hb⟩

theorem aw_dec (w : World) {ao : Option Addr} {cap : Nat} (hA : Arg w ao 32 cap (node32 aw09)) : Calls Try.prog 4 #[.slice ao (32 : Nat) cap] w fun e w' => ∃ xo xc, e = .returned (.tuple #[.agg #[.int .i64 1, .int .i64 2, .int .i64 1, .int .i64 70, .int .i64 0, .int .i64 0, .int .i64 0, .int .i64 0, .int .i64 0, .int .i64 0, .slice xo (1 : Nat) xc, .int .i64 0], .int .i64 0]) ∧ XIs w' xo 1 aw09.x ∧ Below w.heap.size w w' := by
  refine (ndec_any ao 32 cap (node32 aw09) w hA).mono ?_
  rintro e w' ⟨xo, m, xc, rfl, hX, _, hb⟩
  rw [aw_is.1] at hX ⊢
  rw [aw_is.2]
  have hm : m = 1 := hX.1.symm
  subst hm
  exact ⟨xo, xc, rfl, hX, hb⟩

theorem aw_same (w : World) {ao bo : Option Addr} {c1 c2 : Nat} (hX : XIs w ao 1 aw09.x) (hY : XIs w bo 1 aw09.x) : Calls Try.prog 14 #[.agg #[.int .i64 1, .int .i64 2, .int .i64 1, .int .i64 70, .int .i64 0, .int .i64 0, .int .i64 0, .int .i64 0, .int .i64 0, .int .i64 0, .slice ao (1 : Nat) c1, .int .i64 0], .agg #[.int .i64 1, .int .i64 2, .int .i64 1, .int .i64 70, .int .i64 0, .int .i64 0, .int .i64 0, .int .i64 0, .int .i64 0, .int .i64 0, .slice bo (1 : Nat) c2, .int .i64 0]] w fun e w' => e = .returned (.bool true) ∧ Below w.heap.size w w' := same9_true aw09 w hX hY

set_option maxRecDepth 100000 in
set_option maxHeartbeats 3200000 in
theorem awake09_any (w : World) : Calls Try.prog 6 #[] w fun e w' => e = .returned (.bool true) ∧ Below w.heap.size w w' := by
  have SC := st_cx
  have HX0 := Lib.hid (aw_xis w)
  obtain ⟨W1, HW1⟩ : ∃ W, Hid ((w.alloc (.cells #[.int .i64 0, .complex .f64 4633641066610819072 4611686018427387904] 40)).alloc (.cells #[.int .i64 1, .int .i64 2, .int .i64 1, .int .i64 70, .int .i64 0, .int .i64 0, .int .i64 0, .int .i64 0, .int .i64 0, .int .i64 0, .slice (some ⟨w.heap.size, 0, none⟩) 1 1, .int .i64 0] 26) = W) := ⟨_, Lib.hid rfl⟩
  have HB1 : Hid (Below w.heap.size w W1) := Lib.hid (by rw [← HW1.out]; exact ((Below.refl _ _).alloc (Nat.le_refl _) _).alloc (by simp) _)
  have HX1 : Hid (XIs W1 (some ⟨w.heap.size, 0, none⟩) 1 aw09.x) := Lib.hid (by rw [← HW1.out]; exact HX0.out.later ((Below.refl _ _).alloc (Nat.le_refl _) _))
  have HC1 : Hid (∀ j v, (#[.int .i64 1, .int .i64 2, .int .i64 1, .int .i64 70, .int .i64 0, .int .i64 0, .int .i64 0, .int .i64 0, .int .i64 0, .int .i64 0, .slice (some ⟨w.heap.size, 0, none⟩) 1 1, .int .i64 0] : Array Value)[j]? = some v → W1.cell? ⟨w.heap.size + 1, j, none⟩ = some v) := Lib.hid (fun j v h => by
    rw [← HW1.out]
    have h' := made_at9 (w.alloc (.cells #[.int .i64 0, .complex .f64 4633641066610819072 4611686018427387904] 40)) _ 26 j v h
    rw [World.size_alloc] at h'
    exact h')
  go_enter Try.func6, Try.ntmps6
  go_wp2_with (first
    | (go_at_call 9; rw [HW1.out]; refine (aw_enc W1 HX1.out).mono ?_; rintro e w3 ⟨a3, cp3, rfl, hA3, hb3⟩; have HA3 := Lib.hid hA3; have HB3 := Lib.hid (HB1.out.trans (hb3.mono HB1.out.size)); have K3 := Lib.hid hb3; clear hA3 hb3)
    | (go_at_call 4; refine (aw_dec w3 HA3.out).mono ?_; rintro e w4 ⟨xo, xc, rfl, hX4, hb4⟩; obtain ⟨W5, HW5⟩ : ∃ W, Hid (w4.alloc (.cells #[.int .i64 1, .int .i64 2, .int .i64 1, .int .i64 70, .int .i64 0, .int .i64 0, .int .i64 0, .int .i64 0, .int .i64 0, .int .i64 0, .slice xo (1 : Nat) xc, .int .i64 0] 26) = W) := ⟨_, Lib.hid rfl⟩; have b5 : Below w4.heap.size w4 (w4.alloc (.cells #[.int .i64 1, .int .i64 2, .int .i64 1, .int .i64 70, .int .i64 0, .int .i64 0, .int .i64 0, .int .i64 0, .int .i64 0, .int .i64 0, .slice xo (1 : Nat) xc, .int .i64 0] 26)) := ((Below.refl _ _).alloc (Nat.le_refl _) _); have HK := Lib.hid (K3.out.trans ((hb4.trans (b5.mono hb4.size)).mono K3.out.size)); have HX5 := Lib.hid (hX4.later b5); have HX6 := Lib.hid (HX1.out.later HK.out); have HB5 := Lib.hid (HB1.out.trans (HK.out.mono HB1.out.size)); have p0 := cell_later HK.out (HC1.out 0 _ rfl); have p1 := cell_later HK.out (HC1.out 1 _ rfl); have p2 := cell_later HK.out (HC1.out 2 _ rfl); have p3 := cell_later HK.out (HC1.out 3 _ rfl); have p4 := cell_later HK.out (HC1.out 4 _ rfl); have p5 := cell_later HK.out (HC1.out 5 _ rfl); have p6 := cell_later HK.out (HC1.out 6 _ rfl); have p7 := cell_later HK.out (HC1.out 7 _ rfl); have p8 := cell_later HK.out (HC1.out 8 _ rfl); have p9 := cell_later HK.out (HC1.out 9 _ rfl); have p10 := cell_later HK.out (HC1.out 10 _ rfl); have p11 := cell_later HK.out (HC1.out 11 _ rfl); clear hX4 hb4 b5)
    | (go_at_call 14; refine (aw_same _ HX6.out HX5.out).mono ?_; rintro e w6 ⟨rfl, hb6⟩; have HB6 := Lib.hid (HB5.out.trans (hb6.mono HB5.out.size)); clear hb6))
  go_ret
  exact ⟨rfl, HB6.out⟩

end Go.Proofs.Ytojfhhmjoledjaa
