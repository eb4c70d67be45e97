/-
  Proved here: what comes of a node when its numbers are put place by place is its half of a block.
  The conditions stand at each theorem. Nothing of the program is read here.
-/
import Derived.Test.YtojfhhmjoledjaaNWrite
namespace Go.Proofs.Ytojfhhmjoledjaa
open Go.RowKit
set_option linter.unusedVariables false
set_option linter.unusedSimpArgs false

theorem setErr_none9 {p size : Nat} {n : Int} (h1 : 1 ≤ size) (h2 : size ≤ 4) (h3 : p + size ≤ 60) (h4 : 0 ≤ n) (h5 : n < 256 ^ size) : setErr 64 p size n = 0 := by
  have hf : fErr 64 p size = 0 := by
    unfold fErr
    rw [if_pos rfl, if_neg (by omega)]
  unfold setErr
  rw [if_neg (by simp [hf]), if_neg]
  rintro (h | h)
  · omega
  · rw [putK_quot, Int.toNat_natCast, Int.ediv_eq_zero_of_lt h4 h5] at h
    omega

/-- A number put in the midst of a block. -/
theorem setOut_splice (l m r : List Int) {size : Nat} {n : Int} (hl : l.length + size + r.length = 64) (hm : m.length = size) (h1 : 1 ≤ size) (h2 : size ≤ 4) (h3 : l.length + size ≤ 60) (h4 : 0 ≤ n) (h5 : n < 256 ^ size) :
    setOut (l ++ m ++ r) (l.length : Nat) (size : Nat) n = l ++ leB n size ++ r := by
  have hlen : (l ++ m ++ r).length = 64 := by rw [List.length_append, List.length_append]; omega
  rw [setOut_ok (by rw [hlen]; exact setErr_none9 h1 h2 h3 h4 h5), Int.toNat_natCast, Int.toNat_natCast, putK_lay, lay_eq _ _ _ (by rw [leB_length]; omega), leB_length]
  have e1 : (l ++ m ++ r).take l.length = l := by rw [List.append_assoc, List.take_left]
  have e2 : (l ++ m ++ r).drop (l.length + size) = r := by
    rw [List.drop_left' (by rw [List.length_append, hm])]
  rw [e1, e2]

/-- Places, one right behind the other. -/
def Contig : Nat → List Pl → Prop
  | _, [] => True
  | d, p :: r => ∃ k : Nat, p.1 = (d : Int) ∧ p.2.1 = (k : Int) ∧ 1 ≤ k ∧ k ≤ 4 ∧ Contig (d + k) r

def bytesPl (val : Nat → Int) (ps : List Pl) : List Int := ps.flatMap fun p => leB (val p.2.2) p.2.1.toNat
def sizePl (ps : List Pl) : Nat := (ps.map fun p => p.2.1.toNat).foldr (· + ·) 0

theorem bytesPl_length (val : Nat → Int) (ps : List Pl) : (bytesPl val ps).length = sizePl ps := by
  unfold bytesPl sizePl
  induction ps with
  | nil => rfl
  | cons p r ih => rw [List.flatMap_cons, List.length_append, leB_length, ih]; rfl

theorem wrt9_contig (val : Nat → Int) : ∀ (ps : List Pl) (done : List Int) (m : Nat), Contig done.length ps → (∀ p ∈ ps, 0 ≤ val p.2.2 ∧ val p.2.2 < 256 ^ p.2.1.toNat) → done.length + sizePl ps ≤ 60 → done.length + m = 64 →
    wrt9 val (done ++ List.replicate m 0) ps = done ++ bytesPl val ps ++ List.replicate (m - sizePl ps) 0
  | [], done, m, _, _, _, _ => by
    show done ++ List.replicate m 0 = done ++ [] ++ List.replicate (m - 0) 0
    rw [List.append_nil, Nat.sub_zero]
  | p :: r, done, m, hc, hv, h60, h64 => by
    obtain ⟨k, e1, e2, k1, k4, hc'⟩ := hc
    have hk : p.2.1.toNat = k := by omega
    have hsz : sizePl (p :: r) = k + sizePl r := by show p.2.1.toNat + _ = _; rw [hk]; rfl
    have hv0 := hv p (by simp)
    rw [hk] at hv0
    rw [hsz] at h60
    have hm : m = k + (m - k) := by omega
    have hstep : wrt9 val (done ++ List.replicate m 0) (p :: r) = wrt9 val (setOut (done ++ List.replicate m 0) p.1 p.2.1 (val p.2.2)) r := rfl
    have hs : setOut (done ++ List.replicate m 0) p.1 p.2.1 (val p.2.2) = (done ++ leB (val p.2.2) k) ++ List.replicate (m - k) 0 := by
      rw [e1, e2]
      have h := setOut_splice done (List.replicate k 0) (List.replicate (m - k) 0) (size := k) (n := val p.2.2) (by simp; omega) (by simp) k1 k4 (by omega) hv0.1 hv0.2
      rw [List.append_assoc, List.replicate_append_replicate, ← hm] at h
      exact h
    rw [hstep, hs, wrt9_contig val r (done ++ leB (val p.2.2) k) (m - k) (by rw [List.length_append, leB_length]; exact hc') (fun q hq => hv q (List.mem_cons_of_mem _ hq)) (by rw [List.length_append, leB_length]; omega) (by rw [List.length_append, leB_length]; omega)]
    rw [hsz, show m - k - sizePl r = m - (k + sizePl r) by omega]
    have hb : bytesPl val (p :: r) = leB (val p.2.2) k ++ bytesPl val r := by unfold bytesPl; rw [List.flatMap_cons, hk]
    rw [hb]
    simp only [List.append_assoc]

theorem contig_head : Contig 0 headPs9 := ⟨1, rfl, rfl, by decide, by decide, 1, rfl, rfl, by decide, by decide, 2, rfl, rfl, by decide, by decide, 2, rfl, rfl, by decide, by decide, trivial⟩
theorem contig_old : Contig 0 (headPs9 ++ oldPs) := ⟨1, rfl, rfl, by decide, by decide, 1, rfl, rfl, by decide, by decide, 2, rfl, rfl, by decide, by decide, 2, rfl, rfl, by decide, by decide, 2, rfl, rfl, by decide, by decide, 2, rfl, rfl, by decide, by decide, 2, rfl, rfl, by decide, by decide, 2, rfl, rfl, by decide, by decide, 2, rfl, rfl, by decide, by decide, 2, rfl, rfl, by decide, by decide, trivial⟩
theorem contig_new : Contig 0 (headPs9 ++ newPs) := ⟨1, rfl, rfl, by decide, by decide, 1, rfl, rfl, by decide, by decide, 2, rfl, rfl, by decide, by decide, 2, rfl, rfl, by decide, by decide, 1, rfl, rfl, by decide, by decide, 2, rfl, rfl, by decide, by decide, 1, rfl, rfl, by decide, by decide, 1, rfl, rfl, by decide, by decide, 2, rfl, rfl, by decide, by decide, 1, rfl, rfl, by decide, by decide, 1, rfl, rfl, by decide, by decide, 2, rfl, rfl, by decide, by decide, 1, rfl, rfl, by decide, by decide, 2, rfl, rfl, by decide, by decide, trivial⟩

/-- The numbers of a node fit their places: sound nodes' do. -/
def PNode.fits (n : PNode) : Prop := ∀ p ∈ headPs9 ++ bodyPs n.f, 0 ≤ valOf n p.2.2 ∧ valOf n p.2.2 < 256 ^ p.2.1.toNat

theorem bytesPl_append (val : Nat → Int) (ps qs : List Pl) : bytesPl val (ps ++ qs) = bytesPl val ps ++ bytesPl val qs := by
  unfold bytesPl; rw [List.flatMap_append]

theorem bytes_head (n : PNode) : bytesPl (valOf n) headPs9 = nodeH n := by
  show leB n.k 1 ++ (leB n.f 1 ++ (leB n.l 2 ++ (leB n.z 2 ++ []))) = _
  unfold nodeH
  simp only [List.append_assoc, List.append_nil]

/-- The slots' bytes. -/
def slotB (x : List PX) : List Int := leB (slotI x 0) 1 ++ (leB (slotI x 1) 2 ++ (leB (slotI x 2) 1 ++ (leB (slotI x 3) 1 ++ (leB (slotI x 4) 2 ++ (leB (slotI x 5) 1 ++ (leB (slotI x 6) 1 ++ (leB (slotI x 7) 2 ++ leB (slotI x 8) 1)))))))

theorem bytes_slots (n : PNode) : bytesPl (valOf n) slotPs = slotB n.x := by
  show leB (slotI n.x 0) 1 ++ (leB (slotI n.x 1) 2 ++ (leB (slotI n.x 2) 1 ++ (leB (slotI n.x 3) 1 ++ (leB (slotI n.x 4) 2 ++ (leB (slotI n.x 5) 1 ++ (leB (slotI n.x 6) 1 ++ (leB (slotI n.x 7) 2 ++ (leB (slotI n.x 8) 1 ++ [])))))))) = _
  unfold slotB
  rw [List.append_nil]

theorem leB_zero1 : leB 0 1 = [0] := by decide
theorem leB_zero2 : leB 0 2 = [0, 0] := by decide

theorem slotB_pad : ∀ (x : List PX), x.length ≤ 3 → slotB x = exB x ++ List.replicate (12 - x.length * 4) 0
  | [], _ => by decide
  | [a], _ => by
    unfold slotB
    rw [show slotI [a] 0 = a.a from rfl, show slotI [a] 1 = a.f from rfl, show slotI [a] 2 = a.c from rfl, show slotI [a] 3 = 0 from rfl, show slotI [a] 4 = 0 from rfl, show slotI [a] 5 = 0 from rfl, show slotI [a] 6 = 0 from rfl, show slotI [a] 7 = 0 from rfl, show slotI [a] 8 = 0 from rfl, leB_zero1, leB_zero2]
    unfold exB
    simp [List.replicate]
  | [a, b], _ => by
    unfold slotB
    rw [show slotI [a, b] 0 = a.a from rfl, show slotI [a, b] 1 = a.f from rfl, show slotI [a, b] 2 = a.c from rfl, show slotI [a, b] 3 = b.a from rfl, show slotI [a, b] 4 = b.f from rfl, show slotI [a, b] 5 = b.c from rfl, show slotI [a, b] 6 = 0 from rfl, show slotI [a, b] 7 = 0 from rfl, show slotI [a, b] 8 = 0 from rfl, leB_zero1, leB_zero2]
    unfold exB
    simp [List.replicate]
  | [a, b, d], _ => by
    unfold slotB
    rw [show slotI [a, b, d] 0 = a.a from rfl, show slotI [a, b, d] 1 = a.f from rfl, show slotI [a, b, d] 2 = a.c from rfl, show slotI [a, b, d] 3 = b.a from rfl, show slotI [a, b, d] 4 = b.f from rfl, show slotI [a, b, d] 5 = b.c from rfl, show slotI [a, b, d] 6 = d.a from rfl, show slotI [a, b, d] 7 = d.f from rfl, show slotI [a, b, d] 8 = d.c from rfl]
    unfold exB
    simp
  | a :: b :: d :: e :: r, h => by simp at h

theorem exB_length (xs : List PX) : (exB xs).length = xs.length * 4 := by
  unfold exB
  induction xs with
  | nil => rfl
  | cons p r ih => rw [List.flatMap_cons, List.length_append, ih, List.length_append, List.length_append, leB_length, leB_length, leB_length, List.length_cons]; omega

theorem nodeH_length (n : PNode) : (nodeH n).length = 6 := by unfold nodeH; simp only [List.length_append, leB_length]
theorem nodeP_length (n : PNode) : (nodeP n).length = 12 := by unfold nodeP; simp only [List.length_append, leB_length]

theorem pad_slots (n : PNode) (h3 : n.x.length ≤ 3) : pad 18 (nodeH n ++ exB n.x) = nodeH n ++ slotB n.x := by
  rw [slotB_pad n.x h3]
  unfold pad
  rw [List.length_append, nodeH_length, exB_length, List.append_assoc, show 18 - (6 + n.x.length * 4) = 12 - n.x.length * 4 by omega]

theorem wrt_node (n : PNode) (h : n.fits) (h3 : n.x.length ≤ 3) : wrt9 (valOf n) zeros64n (headPs9 ++ bodyPs n.f) = node28 n ++ List.replicate 36 0 ∨ (n.f ≠ 1 ∧ n.f ≠ 2) := by
  by_cases h1 : n.f = 1
  · left
    unfold PNode.fits at h
    have hb : bodyPs n.f = oldPs := by unfold bodyPs; rw [if_pos h1]
    rw [hb] at h ⊢
    have e := wrt9_contig (valOf n) (headPs9 ++ oldPs) [] 64 contig_old h (by decide) rfl
    rw [List.nil_append] at e
    unfold zeros64n
    rw [e]
    have hN : node28 n = pad 28 (nodeH n ++ nodeP n) := by unfold node28; rw [if_neg (by omega)]
    have hB : bytesPl (valOf n) (headPs9 ++ oldPs) = nodeH n ++ nodeP n := rfl
    rw [hN, hB]
    unfold pad
    have hL : (nodeH n ++ nodeP n).length = 18 := by unfold nodeH nodeP; simp only [List.length_append, leB_length]
    rw [hL, List.nil_append]
    show nodeH n ++ nodeP n ++ List.replicate 46 0 = nodeH n ++ nodeP n ++ List.replicate 10 0 ++ List.replicate 36 0
    rw [List.append_assoc (nodeH n ++ nodeP n), List.replicate_append_replicate]
  · by_cases h2 : n.f = 2
    · left
      unfold PNode.fits at h
      have hb : bodyPs n.f = newPs := by unfold bodyPs; rw [if_neg h1, if_pos h2]
      rw [hb] at h ⊢
      have e := wrt9_contig (valOf n) (headPs9 ++ newPs) [] 64 contig_new h (by decide) rfl
      rw [List.nil_append] at e
      unfold zeros64n
      rw [e]
      have hN : node28 n = pad 28 (pad 18 (nodeH n ++ exB n.x) ++ leB n.c 2) := by unfold node28; rw [if_pos h2]
      rw [hN]
      have hB : bytesPl (valOf n) (headPs9 ++ newPs) = pad 18 (nodeH n ++ exB n.x) ++ leB n.c 2 := by
        rw [pad_slots n h3, ← bytes_head, ← bytes_slots]
        unfold newPs
        rw [← List.append_assoc, bytesPl_append, bytesPl_append]
        rfl
      rw [hB]
      have hL : (pad 18 (nodeH n ++ exB n.x) ++ leB n.c 2).length = 20 := by
        rw [← hB, bytesPl_length]; rfl
      generalize pad 18 (nodeH n ++ exB n.x) ++ leB n.c 2 = B at *
      unfold pad
      rw [hL, List.nil_append]
      show B ++ List.replicate 44 0 = B ++ List.replicate 8 0 ++ List.replicate 36 0
      rw [List.append_assoc, List.replicate_append_replicate]
    · exact Or.inr ⟨h1, h2⟩

theorem wrt_none : wrt9 (valOf noNode) zeros64n (headPs9 ++ bodyPs noNode.f) = node28 noNode ++ List.replicate 36 0 := by decide

theorem sound_f {n : PNode} (h : n.sound = true) : n = noNode ∨ (n.headOk = true ∧ n.mapOk = true ∧ (n.f = 1 ∨ n.f = 2)) := by
  unfold PNode.sound at h
  split at h
  · exact Or.inl (of_decide_eq_true h)
  · rw [Bool.and_eq_true] at h
    refine Or.inr ⟨h.1, h.2, ?_⟩
    have hm := h.2
    unfold PNode.mapOk at hm
    by_cases h1 : n.f = 1
    · exact Or.inl h1
    · by_cases h2 : n.f = 2
      · exact Or.inr h2
      · rw [if_neg h1, if_neg h2] at hm; cases hm

theorem node28_length {n : PNode} (h3 : n.x.length ≤ 3) : (node28 n).length = 28 := by
  unfold node28 pad
  split
  · rw [List.length_append, List.length_append, List.length_replicate, List.length_append, List.length_replicate, leB_length, List.length_append, exB_length, nodeH_length]
    omega
  · rw [List.length_append, List.length_append, List.length_replicate, nodeH_length, nodeP_length]

/-- A sound node's half. -/
theorem wrt_sound {n : PNode} (h : n.sound = true) (hf : n.fits) (h3 : n.x.length ≤ 3) : wrt9 (valOf n) zeros64n (headPs9 ++ bodyPs n.f) = node28 n ++ List.replicate 36 0 := by
  rcases sound_f h with rfl | ⟨_, _, h2⟩
  · exact wrt_none
  · rcases wrt_node n hf h3 with e | e
    · exact e
    · rcases h2 with h2 | h2
      · exact absurd h2 e.1
      · exact absurd h2 e.2

theorem write_node {n : PNode} (h : n.sound = true) (hf : n.fits) (h3 : n.x.length ≤ 3) :
    (wrt9 (valOf n) zeros64n (headPs9 ++ bodyPs n.f)).length = 64 ∧ (setOut (wrt9 (valOf n) zeros64n (headPs9 ++ bodyPs n.f)) 28 4 (sumS ((wrt9 (valOf n) zeros64n (headPs9 ++ bodyPs n.f)).take 28))).take 32 = node32 n := by
  have hl := node28_length h3
  rw [wrt_sound h hf h3]
  have ht : (node28 n ++ List.replicate 36 (0 : Int)).take 28 = node28 n := List.take_left' hl
  refine ⟨by rw [List.length_append, hl]; rfl, ?_⟩
  rw [ht]
  have hb := sumS_bounds (node28 n)
  unfold node32
  generalize sumS (node28 n) = S at *
  have e := setOut_splice (node28 n) (List.replicate 4 0) (List.replicate 32 0) (size := 4) (n := S) (by rw [hl]; simp) (by simp) (by decide) (by decide) (by omega) hb.1 (by omega)
  rw [hl, List.append_assoc, List.replicate_append_replicate] at e
  have e' : setOut (node28 n ++ List.replicate 36 0) 28 4 S = node28 n ++ leB S 4 ++ List.replicate 32 0 := e
  rw [e', List.take_left' (by rw [List.length_append, hl, leB_length])]

end Go.Proofs.Ytojfhhmjoledjaa
