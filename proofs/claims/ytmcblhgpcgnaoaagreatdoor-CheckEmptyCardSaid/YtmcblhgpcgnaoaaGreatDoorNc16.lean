/-
  Proved here: what the document's own Encode (drydockref09) answers of any small node. The conditions stand at each theorem. Proved here: what the document's own GetExtent (drydockref09) answers; and what its Decode begins with: the variable that is read into. The conditions stand at each theorem. Proved here: the landed Decode and the document's own read any bytes alike; and the simplest facts that the laws of layer 9 ask hold of the landed node. The conditions stand at each theorem. Proved here: a sound node that was written is read as it was. No conditions but those that each theorem names. Proved here: plain facts on a volume's blocks: what is set is read, what is not set stays, an empty volume is sound. No conditions but those that each theorem names. Nothing of the program is read here.
-/
import Derived.Test.YtmcblhgpcgnaoaaGreatDoorNc15
import Derived.Test.YtmcblhgpcgnaoaaGreatDoorNc6
import Derived.Test.YtmcblhgpcgnaoaaGreatDoorNc1
import Derived.Deep.RegionHeld
import Derived.Test.YtmcblhgpcgnaoaaGreatDoorNc7
import Derived.Deep.Cut
import Derived.Deep.RegionLaw
import Derived.Test.YtmcblhgpcgnaoaaGreatDoorNc4
import Derived.Test.YtmcblhgpcgnaoaaGreatDoorNc9
import Derived.Test.YtmcblhgpcgnaoaaGreatDoorNc14
namespace Go.Proofs.YtmcblhgpcgnaoaaGreatDoor
open Go.RowKit
set_option linter.unusedVariables false
set_option linter.unusedSimpArgs false

def sixObj (l : List Int) : Obj := .cells (l.map (Value.int .i64)).toArray 3

theorem six_obj {w : World} {g : Nat} {l : List Int} (h : w.heap[g]? = some (sixObj l)) {j : Nat} {x : Int} (hj : l[j]? = some x) : w.cell? ⟨g, j, none⟩ = some (.int .i64 x) := by
  have hc : w.cell? ⟨g, j, none⟩ = (l.map (Value.int .i64)).toArray[j]? := by
    unfold World.cell?
    rw [h]
    rfl
  rw [hc]
  simp [hj]

theorem sixObj_ty (l : List Int) : ∀ cs mk, sixObj l ≠ .cells cs 5 mk := by
  intro cs mk h
  unfold sixObj at h
  injection h with _ h2 _
  exact absurd h2 (by decide)

set_option maxHeartbeats 800000 in
theorem all09g_any (k f l z d0 d1 d2 d3 s t : Int) (ao : Option Addr) (m cap : Nat) (c : Int) (w : World) : Calls Tryz.prog 108 #[.agg #[.int .i64 k, .int .i64 f, .int .i64 l, .int .i64 z, .int .i64 d0, .int .i64 d1, .int .i64 d2, .int .i64 d3, .int .i64 s, .int .i64 t, .slice ao m cap, .int .i64 c]] w fun e w' => ∃ g, e = .returned (.slice (some ⟨g, 0, none⟩) (6 : Nat) (6 : Nat)) ∧ w'.heap[g]? = some (sixObj [d0, d1, d2, d3, s, t]) ∧ Below w.heap.size w w' := by
  have HB : Hid (Below w.heap.size w (w.alloc (.cells #[.int .i64 k, .int .i64 f, .int .i64 l, .int .i64 z, .int .i64 d0, .int .i64 d1, .int .i64 d2, .int .i64 d3, .int .i64 s, .int .i64 t, .slice ao m cap, .int .i64 c] 49))) := Lib.hid ((Below.refl _ _).alloc (Nat.le_refl _) _)
  go_enter Tryz.func108, Tryz.ntmps108
  go_wp2_with fail
  go_ret
  refine ⟨w.heap.size + 1, rfl, ?_, HB.out.alloc HB.out.size _⟩
  rw [← World.size_alloc w (.cells #[.int .i64 k, .int .i64 f, .int .i64 l, .int .i64 z, .int .i64 d0, .int .i64 d1, .int .i64 d2, .int .i64 d3, .int .i64 s, .int .i64 t, .slice ao m cap, .int .i64 c] 49), heap_alloc_new]
  rfl

/-- A row of bytes with some zeros behind it. -/
def Zeroed (w0 : World) (base : Nat) (L : List Int) (j : Nat) (v : Value) (wr : World) : Prop := wr.ownsRow base 5 1 v j ((L ++ List.replicate (j - L.length) 0).map (Value.int .u8)) ∧ Below base w0 wr

theorem zeroed_step {w0 wr w1 : World} {base j : Nat} {L : List Int} {v v1 : Value} (h : Zeroed w0 base L j v wr) (hL : L.length ≤ j) (ho : w1.ownsRow base 5 1 v1 (j + 1) ((L ++ List.replicate (j - L.length) 0).map (Value.int .u8) ++ [0].map (Value.int .u8))) (hb : Below base (wr.alloc (.cells #[.int .u8 0] 5)) w1) (hs : base ≤ wr.heap.size) : Zeroed w0 base L (j + 1) v1 w1 := by
  refine ⟨?_, (h.2.alloc hs _).trans hb⟩
  rw [← List.map_append, List.append_assoc] at ho
  rw [show j + 1 - L.length = (j - L.length) + 1 by omega, List.replicate_succ']
  exact ho

theorem node_bytes (n : PNode) (x : List PX) : ∀ y ∈ nodeH n ++ exB x, 0 ≤ y ∧ y ≤ 255 := by
  intro y hy
  rcases List.mem_append.1 hy with h | h
  · unfold nodeH at h
    simp only [List.mem_append] at h
    rcases h with ((h | h) | h) | h
    all_goals exact leB_bytes _ _ y h
  · unfold exB at h
    obtain ⟨u, _, h⟩ := List.mem_flatMap.1 h
    simp only [List.mem_append] at h
    rcases h with (h | h) | h
    all_goals exact leB_bytes _ _ y h

theorem node_bytesP (n : PNode) : ∀ y ∈ nodeH n ++ nodeP n, 0 ≤ y ∧ y ≤ 255 := by
  intro y hy
  rcases List.mem_append.1 hy with h | h
  · unfold nodeH at h
    simp only [List.mem_append] at h
    rcases h with ((h | h) | h) | h
    all_goals exact leB_bytes _ _ y h
  · unfold nodeP at h
    simp only [List.mem_append] at h
    rcases h with ((((h | h) | h) | h) | h) | h
    all_goals exact leB_bytes _ _ y h

def putsB (l : List Int) : List Int := l.flatMap fun p => leB p 2
theorem puts_node (k f l z d0 d1 d2 d3 s t : Int) (x : List PX) (c : Int) : putsB ([d0, d1, d2, d3, s, t].take 6) = nodeP ⟨k, f, l, z, d0, d1, d2, d3, s, t, x, c⟩ := by
  show leB d0 2 ++ (leB d1 2 ++ (leB d2 2 ++ (leB d3 2 ++ (leB s 2 ++ (leB t 2 ++ []))))) = leB d0 2 ++ leB d1 2 ++ leB d2 2 ++ leB d3 2 ++ leB s 2 ++ leB t 2
  simp only [List.append_assoc, List.append_nil]

set_option maxRecDepth 100000 in
set_option maxHeartbeats 12800000 in
theorem renc_any (n : PNode) {ao : Option Addr} {m cap : Nat} (w : World) (hn : n.small) (hX : XIs w ao m n.x) :
    Calls Tryz.prog 57 #[n.val (.slice ao m cap)] w (Handed w.heap.size w (nodeOut n) (nodeErr n)) := by
  have CS := Lib.hid (fun (W : World) (hW : Below w.heap.size w W) => Sound09_any (cap := cap) n W hn (hX.later hW))
  have hm := hX.2.1
  have HXL := Lib.hid hX.1
  have HX := Lib.hid hX
  have HSM := Lib.hid hn.2.2.2.2.2.2.2.2.2.2.2
  have HPU : Hid (∀ y ∈ n.ptrs, u16 y) := Lib.hid (fun y hy => by
    obtain ⟨_, _, _, _, h4, h5, h6, h7, h8, h9, _⟩ := hn
    unfold PNode.ptrs at hy
    simp only [List.mem_cons, List.mem_nil_iff, or_false] at hy
    rcases hy with rfl | rfl | rfl | rfl | rfl | rfl <;> assumption)
  have HKn : Hid (0 ≤ n.k ∧ n.k < 4294967296) := Lib.hid (by have := hn.1; unfold u16 at this; omega)
  have HFn : Hid (0 ≤ n.f ∧ n.f < 4294967296) := Lib.hid (by have := hn.2.1; unfold u16 at this; omega)
  have HLn : Hid (0 ≤ n.l ∧ n.l < 4294967296) := Lib.hid (by have := hn.2.2.1; unfold u16 at this; omega)
  have HZn : Hid (0 ≤ n.z ∧ n.z < 4294967296) := Lib.hid (by have := hn.2.2.2.1; unfold u16 at this; omega)
  have HCn : Hid (0 ≤ n.c ∧ n.c < 4294967296) := Lib.hid (by have := hn.2.2.2.2.2.2.2.2.2.2.1; unfold u16 at this; omega)
  clear hX hn
  cases hs : n.sound with
  | false =>
    have HO : Hid (nodeOut n = [] ∧ nodeErr n = 2) := Lib.hid (by unfold nodeOut nodeErr; rw [hs]; exact ⟨rfl, rfl⟩)
    rw [hs] at CS
    generalize nodeOut n = O at *
    generalize nodeErr n = E at *
    clear hs
    obtain ⟨k, f, l, z, d0, d1, d2, d3, s, t, x, c⟩ := n
    unfold PNode.val at CS ⊢
    simp only at CS ⊢
    have W1 : Hid (Below w.heap.size w (w.alloc (.cells #[.int .i64 k, .int .i64 f, .int .i64 l, .int .i64 z, .int .i64 d0, .int .i64 d1, .int .i64 d2, .int .i64 d3, .int .i64 s, .int .i64 t, .slice ao m cap, .int .i64 c] 49))) := Lib.hid ((Below.refl _ _).alloc (Nat.le_refl _) _)
    go_enter Tryz.func57, Tryz.ntmps57
    go_wp2_with (go_at_call 106; refine (CS.out _ W1.out).mono ?_; rintro e w2 ⟨rfl, hb2⟩; have B2 := Lib.hid (W1.out.trans (hb2.mono W1.out.size)); clear hb2)
    go_ret2
    exact ⟨.slice none 0 0, by rw [HO.out.2]; rfl, by rw [HO.out.1]; exact Fresh.nil _ _, B2.out⟩
  | true =>
    have HO : Hid (nodeOut n = node32 n ∧ nodeErr n = 0) := Lib.hid (by unfold nodeOut nodeErr; rw [hs]; exact ⟨rfl, rfl⟩)
    rw [hs] at CS
    generalize nodeOut n = O at *
    generalize nodeErr n = E at *
    clear hs
    obtain ⟨k, f, l, z, d0, d1, d2, d3, s, t, x, c⟩ := n
    unfold PNode.val at CS ⊢
    unfold PNode.ptrs at HPU
    simp only at CS HXL HX HSM HPU HKn HFn HLn HZn HCn ⊢
    by_cases hf2 : f = 2
    · subst hf2
      have W1 : Hid (Below w.heap.size w (w.alloc (.cells #[.int .i64 k, .int .i64 2, .int .i64 l, .int .i64 z, .int .i64 d0, .int .i64 d1, .int .i64 d2, .int .i64 d3, .int .i64 s, .int .i64 t, .slice ao m cap, .int .i64 c] 49))) := Lib.hid ((Below.refl _ _).alloc (Nat.le_refl _) _)
      have HC : Hid (∀ j v, (#[.int .i64 k, .int .i64 2, .int .i64 l, .int .i64 z, .int .i64 d0, .int .i64 d1, .int .i64 d2, .int .i64 d3, .int .i64 s, .int .i64 t, .slice ao m cap, .int .i64 c] : Array Value)[j]? = some v → (w.alloc (.cells #[.int .i64 k, .int .i64 2, .int .i64 l, .int .i64 z, .int .i64 d0, .int .i64 d1, .int .i64 d2, .int .i64 d3, .int .i64 s, .int .i64 t, .slice ao m cap, .int .i64 c] 49)).cell? ⟨w.heap.size, j, none⟩ = some v) := Lib.hid (fun j v h => by rw [World.cell?_alloc_new]; exact h)
      have cS0 := CS.out _ W1.out
      obtain ⟨WB, hWB⟩ : ∃ WB, (w.alloc (.cells #[.int .i64 k, .int .i64 2, .int .i64 l, .int .i64 z, .int .i64 d0, .int .i64 d1, .int .i64 d2, .int .i64 d3, .int .i64 s, .int .i64 t, .slice ao m cap, .int .i64 c] 49)) = WB := ⟨_, rfl⟩
      rw [hWB] at W1 HC cS0
      have HWB := Lib.hid hWB
      clear hWB CS
      go_enter Tryz.func57, Tryz.ntmps57
      go_wp2_with (first
          | (go_at_call 106; rw [HWB.out]; refine cS0.mono ?_; rintro e w2 ⟨rfl, hb2⟩; have B2 := Lib.hid hb2; have S2 := Lib.hid hb2.size; have O2 : Hid (w2.ownsRow WB.heap.size 5 1 (.slice none 0 0) 0 (([] : List Int).map (Value.int .u8))) := Lib.hid (World.ownsRow_nil w2 WB.heap.size 5 1); have q2_0 := cell_later hb2 (HC.out 0 _ rfl); have q2_1 := cell_later hb2 (HC.out 1 _ rfl); have q2_2 := cell_later hb2 (HC.out 2 _ rfl); have q2_3 := cell_later hb2 (HC.out 3 _ rfl); have q2_4 := cell_later hb2 (HC.out 4 _ rfl); have q2_5 := cell_later hb2 (HC.out 5 _ rfl); have q2_6 := cell_later hb2 (HC.out 6 _ rfl); have q2_7 := cell_later hb2 (HC.out 7 _ rfl); have q2_8 := cell_later hb2 (HC.out 8 _ rfl); have q2_9 := cell_later hb2 (HC.out 9 _ rfl); have q2_10 := cell_later hb2 (HC.out 10 _ rfl); have q2_11 := cell_later hb2 (HC.out 11 _ rfl); clear hb2)
          | (go_at_call 90; refine (put09 2 rfl O5.out S5.out HZn.out (by decide) (by decide)).mono ?_; rintro e w6 ⟨v6, rfl, h5, b5⟩; have B6 := Lib.hid (B5.out.trans b5); have O6 := Lib.hid h5; have S6 := Lib.hid (Nat.le_trans S5.out b5.size); have q6_0 := cell_later B6.out (HC.out 0 _ rfl); have q6_1 := cell_later B6.out (HC.out 1 _ rfl); have q6_2 := cell_later B6.out (HC.out 2 _ rfl); have q6_3 := cell_later B6.out (HC.out 3 _ rfl); have q6_4 := cell_later B6.out (HC.out 4 _ rfl); have q6_5 := cell_later B6.out (HC.out 5 _ rfl); have q6_6 := cell_later B6.out (HC.out 6 _ rfl); have q6_7 := cell_later B6.out (HC.out 7 _ rfl); have q6_8 := cell_later B6.out (HC.out 8 _ rfl); have q6_9 := cell_later B6.out (HC.out 9 _ rfl); have q6_10 := cell_later B6.out (HC.out 10 _ rfl); have q6_11 := cell_later B6.out (HC.out 11 _ rfl); clear h5 b5)
          | (go_at_call 90; refine (put09 2 rfl O4.out S4.out HLn.out (by decide) (by decide)).mono ?_; rintro e w5 ⟨v5, rfl, h5, b5⟩; have B5 := Lib.hid (B4.out.trans b5); have O5 := Lib.hid h5; have S5 := Lib.hid (Nat.le_trans S4.out b5.size); have q5_0 := cell_later B5.out (HC.out 0 _ rfl); have q5_1 := cell_later B5.out (HC.out 1 _ rfl); have q5_2 := cell_later B5.out (HC.out 2 _ rfl); have q5_3 := cell_later B5.out (HC.out 3 _ rfl); have q5_4 := cell_later B5.out (HC.out 4 _ rfl); have q5_5 := cell_later B5.out (HC.out 5 _ rfl); have q5_6 := cell_later B5.out (HC.out 6 _ rfl); have q5_7 := cell_later B5.out (HC.out 7 _ rfl); have q5_8 := cell_later B5.out (HC.out 8 _ rfl); have q5_9 := cell_later B5.out (HC.out 9 _ rfl); have q5_10 := cell_later B5.out (HC.out 10 _ rfl); have q5_11 := cell_later B5.out (HC.out 11 _ rfl); clear h5 b5)
          | (go_at_call 90; refine (put09 1 rfl O3.out S3.out HFn.out (by decide) (by decide)).mono ?_; rintro e w4 ⟨v4, rfl, h5, b5⟩; have B4 := Lib.hid (B3.out.trans b5); have O4 := Lib.hid h5; have S4 := Lib.hid (Nat.le_trans S3.out b5.size); have q4_0 := cell_later B4.out (HC.out 0 _ rfl); have q4_1 := cell_later B4.out (HC.out 1 _ rfl); have q4_2 := cell_later B4.out (HC.out 2 _ rfl); have q4_3 := cell_later B4.out (HC.out 3 _ rfl); have q4_4 := cell_later B4.out (HC.out 4 _ rfl); have q4_5 := cell_later B4.out (HC.out 5 _ rfl); have q4_6 := cell_later B4.out (HC.out 6 _ rfl); have q4_7 := cell_later B4.out (HC.out 7 _ rfl); have q4_8 := cell_later B4.out (HC.out 8 _ rfl); have q4_9 := cell_later B4.out (HC.out 9 _ rfl); have q4_10 := cell_later B4.out (HC.out 10 _ rfl); have q4_11 := cell_later B4.out (HC.out 11 _ rfl); clear h5 b5)
          | (go_at_call 90; refine (put09 1 rfl O2.out S2.out HKn.out (by decide) (by decide)).mono ?_; rintro e w3 ⟨v3, rfl, h5, b5⟩; have B3 := Lib.hid (B2.out.trans b5); have O3 := Lib.hid h5; have S3 := Lib.hid (Nat.le_trans S2.out b5.size); have q3_0 := cell_later B3.out (HC.out 0 _ rfl); have q3_1 := cell_later B3.out (HC.out 1 _ rfl); have q3_2 := cell_later B3.out (HC.out 2 _ rfl); have q3_3 := cell_later B3.out (HC.out 3 _ rfl); have q3_4 := cell_later B3.out (HC.out 4 _ rfl); have q3_5 := cell_later B3.out (HC.out 5 _ rfl); have q3_6 := cell_later B3.out (HC.out 6 _ rfl); have q3_7 := cell_later B3.out (HC.out 7 _ rfl); have q3_8 := cell_later B3.out (HC.out 8 _ rfl); have q3_9 := cell_later B3.out (HC.out 9 _ rfl); have q3_10 := cell_later B3.out (HC.out 10 _ rfl); have q3_11 := cell_later B3.out (HC.out 11 _ rfl); clear h5 b5))
      have HBASE := Lib.hid (Nat.le_refl WB.heap.size)
      have HHH : Hid (w6.ownsRow WB.heap.size 5 1 v6 6 ((nodeH ⟨k, 2, l, z, d0, d1, d2, d3, s, t, x, c⟩).map (Value.int .u8))) := Lib.hid O6.out
      go_loopw [4, 5] (fun vv iv wr => ∃ i : Nat, iv = .int .i64 (i : Int) ∧ i ≤ m ∧ Hid (wr.ownsRow WB.heap.size 5 1 vv (6 + 4 * i) ((nodeH ⟨k, 2, l, z, d0, d1, d2, d3, s, t, x, c⟩ ++ exB (x.take i)).map (Value.int .u8))) ∧ Hid (Below WB.heap.size WB wr)) (fun _ iv _ => m - (intOf iv).toNat)
      case atStart => exact ⟨0, rfl, Nat.zero_le _, Lib.hid (by rw [show exB (x.take 0) = [] from rfl, List.append_nil]; exact HHH.out), B6⟩
      case round =>
        obtain ⟨i, rfl, hi, HR, HB⟩ := hrel
        have q10 := cell_later HB.out (HC.out 10 _ rfl)
        have q11 := cell_later HB.out (HC.out 11 _ rfl)
        by_cases hlt : i < m
        · obtain ⟨b, off, y, p, q, rfl, hy, hmem, c1, c2, f1, f2⟩ := HX.out.at hlt
          have d1' := cell_later (W1.out.trans (HB.out.mono W1.out.size)) c1
          have d2' := cell_later (W1.out.trans (HB.out.mono W1.out.size)) c2
          have i1 : (i : Int) < (m : Int) := by omega
          have cP := PutExtent_any y p q WB.heap.size _ (6 + 4 * i) _ wr HR.out HB.out.size (by omega) (HSM.out y hmem) f1 f2
          have HT : Hid (exB (x.take (i + 1)) = exB (x.take i) ++ (leB y.a 1 ++ leB y.f 2 ++ leB y.c 1)) := Lib.hid (by
            rw [take_at hy]
            unfold exB
            rw [List.flatMap_append]
            simp)
          have CP := Lib.hid cP
          clear hy hmem c1 c2 f1 f2 cP
          go_wp2_with (go_at_call 107; refine CP.out.mono ?_; rintro e w7 ⟨v7, rfl, h7, b7⟩; have O7 := Lib.hid h7; have B7 := Lib.hid (HB.out.trans b7); clear h7 b7)
          go_roundw
          case rel => exact ⟨i + 1, by go_num, by omega, Lib.hid (by rw [HT.out, ← List.append_assoc, show 6 + 4 * (i + 1) = 6 + 4 * i + 4 by omega]; exact O7.out), B7⟩
          case measure => simp [intOf]; omega
        · have hin : i = m := by omega
          subst hin
          have HTT : Hid (x.take i = x) := Lib.hid (by rw [← HXL.out]; exact List.take_length)
          rw [HTT.out] at HR
          have hAl : (nodeH ⟨k, 2, l, z, d0, d1, d2, d3, s, t, x, c⟩ ++ exB x).length = 6 + 4 * i := by rw [List.length_append, nodeH_length, exB_length, HXL.out]; omega
          have hAb : ∀ y ∈ nodeH ⟨k, 2, l, z, d0, d1, d2, d3, s, t, x, c⟩ ++ exB x, 0 ≤ y ∧ y ≤ 255 := node_bytes _ _
          have hP18 : pad 18 (nodeH ⟨k, 2, l, z, d0, d1, d2, d3, s, t, x, c⟩ ++ exB x) = (nodeH ⟨k, 2, l, z, d0, d1, d2, d3, s, t, x, c⟩ ++ exB x) ++ List.replicate (18 - (nodeH ⟨k, 2, l, z, d0, d1, d2, d3, s, t, x, c⟩ ++ exB x).length) 0 := rfl
          have hN28 : node28 ⟨k, 2, l, z, d0, d1, d2, d3, s, t, x, c⟩ = pad 28 (pad 18 (nodeH ⟨k, 2, l, z, d0, d1, d2, d3, s, t, x, c⟩ ++ exB x) ++ leB c 2) := by unfold node28; rw [if_pos rfl]
          rw [hP18] at hN28
          obtain ⟨A, hA⟩ : ∃ A, nodeH ⟨k, 2, l, z, d0, d1, d2, d3, s, t, x, c⟩ ++ exB x = A := ⟨_, rfl⟩
          rw [hA] at HR hAl hAb hN28
          have HA6 := Lib.hid hAl
          have HAB := Lib.hid hAb
          have HN28 := Lib.hid hN28
          have hi3 : i ≤ 3 := hm
          clear hA hAl hAb hN28 hP18
          go_wp2_with fail
          go_loopw [4] (fun vv wr => ∃ j : Nat, A.length ≤ j ∧ j ≤ 18 ∧ (∃ ao cap, vv = .slice ao j cap) ∧ Hid (Zeroed WB WB.heap.size A j vv wr)) (fun vv _ => 18 - lenOf9 vv)
          case atStart => exact ⟨6 + 4 * i, by rw [HA6.out]; exact Nat.le_refl _, by omega, owns_len HR.out, Lib.hid ⟨by rw [HA6.out, Nat.sub_self, List.replicate_zero, List.append_nil]; exact HR.out, HB.out⟩⟩
          case round =>
            obtain ⟨j, hj1, hj2, ⟨bo, bc, rfl⟩, HR⟩ := hrel
            have HS : Hid (WB.heap.size ≤ wr.heap.size) := Lib.hid (Nat.le_trans HBASE.out HR.out.2.size)
            by_cases hlt : j < 18
            · have j1 : (j : Int) < 18 := by omega
              go_wp2_with (at_builtin; refine wp_append_bytes rfl (.tmp 46) (.tmp 47) rfl WB.heap.size j _ _ rfl (HR.out.1.alloc _) (some ⟨wr.heap.size, 0, none⟩) 1 1 [0] rfl (one_bts wr 0 (by decide)) (by simp) (by omega) (by have := HS.out; simp; omega) ?_; intro v1 w1 hown1 hb1; have HZ1 := Lib.hid (zeroed_step HR.out hj1 hown1 hb1 HS.out); obtain ⟨b1, c1, rfl⟩ := owns_len hown1; clear hown1 hb1)
              go_roundw
              case rel => first | exact ⟨j + 1, by omega, by omega, ⟨b1, c1, rfl⟩, HZ1⟩ | (refine ⟨.slice b1 (j + 1) c1, _, _, _, _, _, _, ⟨j + 1, by omega, by omega, ⟨b1, c1, rfl⟩, HZ1⟩, ?_⟩; rfl)
              case measure => simp [lenOf9]; omega
            · have hjt : j = 18 := by omega
              subst hjt
              have HO18 := HR
              have q11' := cell_later HR.out.2 (HC.out 11 _ rfl)
              have hL18 : (A ++ List.replicate (18 - A.length) 0).length = 18 := by rw [List.length_append, List.length_replicate]; omega
              have hLB : ∀ y ∈ A ++ List.replicate (18 - A.length) 0, 0 ≤ y ∧ y ≤ 255 := fun y hy => by
                rcases List.mem_append.1 hy with h | h
                · exact HAB.out y h
                · rw [List.eq_of_mem_replicate h]; decide
              have hPD := HN28.out
              have HOWN18 := Lib.hid HR.out.1
              have HB18 := Lib.hid HR.out.2
              generalize A ++ List.replicate (18 - A.length) 0 = A18 at *
              have hl20 : (A18 ++ leB c 2).length = 20 := by rw [List.length_append, hL18, leB_length]
              have hlb20 : ∀ y ∈ A18 ++ leB c 2, 0 ≤ y ∧ y ≤ 255 := fun y hy => by
                rcases List.mem_append.1 hy with h | h
                · exact hLB y h
                · exact leB_bytes _ _ y h
              have hpd : (A18 ++ leB c 2) ++ List.replicate (28 - (A18 ++ leB c 2).length) 0 = node28 ⟨k, 2, l, z, d0, d1, d2, d3, s, t, x, c⟩ := hPD.symm
              clear hLB hPD
              go_wp2_with (go_at_call 90; refine (put09 2 rfl HOWN18.out HS.out HCn.out (by decide) (by decide)).mono ?_; rintro e w9 ⟨v9, rfl, h9, b9⟩; have O9 := Lib.hid h9; have B9 := Lib.hid (HB18.out.trans b9); obtain ⟨o9, c9, rfl⟩ := owns_len h9; clear h9 b9)
              obtain ⟨L, hL⟩ : ∃ L, A18 ++ leB c 2 = L := ⟨_, rfl⟩
              rw [hL] at O9 hl20 hlb20 hpd
              have HLB := Lib.hid hlb20
              have HPD := Lib.hid hpd
              have HL20 := Lib.hid hl20
              clear hL hlb20 hpd hL18
              go_loopw [4] (fun vv wr => ∃ j : Nat, L.length ≤ j ∧ j ≤ 28 ∧ (∃ ao cap, vv = .slice ao j cap) ∧ Hid (Zeroed WB WB.heap.size L j vv wr)) (fun vv _ => 28 - lenOf9 vv)
              case atStart => exact ⟨20, by rw [HL20.out]; exact Nat.le_refl _, by decide, ⟨o9, c9, rfl⟩, Lib.hid ⟨by rw [HL20.out, Nat.sub_self, List.replicate_zero, List.append_nil]; exact O9.out, B9.out⟩⟩
              case round =>
                obtain ⟨j, hj1, hj2, ⟨bo, bc, rfl⟩, HR⟩ := hrel
                have HS : Hid (WB.heap.size ≤ wr.heap.size) := Lib.hid (Nat.le_trans HBASE.out HR.out.2.size)
                by_cases hlt : j < 28
                · have j1 : (j : Int) < 28 := by omega
                  go_wp2_with (at_builtin; refine wp_append_bytes rfl (.tmp 68) (.tmp 69) rfl WB.heap.size j _ _ rfl (HR.out.1.alloc _) (some ⟨wr.heap.size, 0, none⟩) 1 1 [0] rfl (one_bts wr 0 (by decide)) (by simp) (by omega) (by have := HS.out; simp; omega) ?_; intro v1 w1 hown1 hb1; have HZ1 := Lib.hid (zeroed_step HR.out hj1 hown1 hb1 HS.out); obtain ⟨b1, c1, rfl⟩ := owns_len hown1; clear hown1 hb1)
                  go_roundw
                  case rel => first | exact ⟨j + 1, by omega, by omega, ⟨b1, c1, rfl⟩, HZ1⟩ | (refine ⟨.slice b1 (j + 1) c1, _, _, _, _, _, _, ⟨j + 1, by omega, by omega, ⟨b1, c1, rfl⟩, HZ1⟩, ?_⟩; rfl)
                  case measure => simp [lenOf9]; omega
                · have hjt : j = 28 := by omega
                  subst hjt
                  have hbt : ∀ y ∈ L ++ List.replicate (28 - L.length) 0, 0 ≤ y ∧ y ≤ 255 := fun y hy => by
                    rcases List.mem_append.1 hy with h | h
                    · exact HLB.out y h
                    · rw [List.eq_of_mem_replicate h]; decide
                  have hP : Hid (L ++ List.replicate (28 - L.length) 0 = node28 ⟨k, 2, l, z, d0, d1, d2, d3, s, t, x, c⟩) := Lib.hid (HPD.out)
                  rw [hP.out] at hbt
                  have hown := HR.out.1
                  rw [hP.out] at hown
                  obtain ⟨bo', bc', hv', hB'⟩ := owns_bts hown hbt (by decide)
                  cases hv'
                  have cS := refSum_any bo 28 bc (node28 ⟨k, 2, l, z, d0, d1, d2, d3, s, t, x, c⟩) wr hB'
                  have hsb := sumS_bounds (node28 ⟨k, 2, l, z, d0, d1, d2, d3, s, t, x, c⟩)
                  have HOW := Lib.hid hown
                  have HBF := Lib.hid HR.out.2
                  have HNB := Lib.hid hbt
                  have HN32 : Hid (node32 ⟨k, 2, l, z, d0, d1, d2, d3, s, t, x, c⟩ = node28 ⟨k, 2, l, z, d0, d1, d2, d3, s, t, x, c⟩ ++ leB (sumS (node28 ⟨k, 2, l, z, d0, d1, d2, d3, s, t, x, c⟩)) 4) := Lib.hid rfl
                  generalize node28 ⟨k, 2, l, z, d0, d1, d2, d3, s, t, x, c⟩ = M at *
                  generalize sumS M = SS at *
                  have hw : IntKind.i64.wrap SS = SS := by rw [IntKind.wrap_i64]; omega
                  clear hbt hown hB'
                  go_wp2_with (first
                    | (go_at_call 105; refine cS.mono ?_; rintro e w7 ⟨rfl, rfl⟩)
                    | (go_at_call 90; refine (put09 4 rfl HOW.out HS.out (by omega) (by decide) (by decide)).mono ?_; rintro e w8 ⟨v8, rfl, h5, b5⟩; have B8 := Lib.hid (HBF.out.trans b5); have O8 := Lib.hid h5; clear h5 b5))
                  go_ret2
                  exact ⟨v8, by rw [HO.out.2]; rfl, by rw [HO.out.1, HN32.out]; exact (fresh_of_owns O8.out (fun y hy => by
                    rcases List.mem_append.1 hy with h | h
                    · exact HNB.out y h
                    · exact leB_bytes _ _ y h) (by decide)).mono W1.out.size, W1.out.trans (B8.out.mono W1.out.size)⟩
    · have e1 : (f == 2) = false := by simp [hf2]
      have e2 : decide (f = 2) = false := by simp [hf2]
      have W1 : Hid (Below w.heap.size w (w.alloc (.cells #[.int .i64 k, .int .i64 f, .int .i64 l, .int .i64 z, .int .i64 d0, .int .i64 d1, .int .i64 d2, .int .i64 d3, .int .i64 s, .int .i64 t, .slice ao m cap, .int .i64 c] 49))) := Lib.hid ((Below.refl _ _).alloc (Nat.le_refl _) _)
      have HC : Hid (∀ j v, (#[.int .i64 k, .int .i64 f, .int .i64 l, .int .i64 z, .int .i64 d0, .int .i64 d1, .int .i64 d2, .int .i64 d3, .int .i64 s, .int .i64 t, .slice ao m cap, .int .i64 c] : Array Value)[j]? = some v → (w.alloc (.cells #[.int .i64 k, .int .i64 f, .int .i64 l, .int .i64 z, .int .i64 d0, .int .i64 d1, .int .i64 d2, .int .i64 d3, .int .i64 s, .int .i64 t, .slice ao m cap, .int .i64 c] 49)).cell? ⟨w.heap.size, j, none⟩ = some v) := Lib.hid (fun j v h => by rw [World.cell?_alloc_new]; exact h)
      have cS0 := CS.out _ W1.out
      obtain ⟨WB, hWB⟩ : ∃ WB, (w.alloc (.cells #[.int .i64 k, .int .i64 f, .int .i64 l, .int .i64 z, .int .i64 d0, .int .i64 d1, .int .i64 d2, .int .i64 d3, .int .i64 s, .int .i64 t, .slice ao m cap, .int .i64 c] 49)) = WB := ⟨_, rfl⟩
      rw [hWB] at W1 HC cS0
      have HWB := Lib.hid hWB
      clear hWB CS
      go_enter Tryz.func57, Tryz.ntmps57
      go_wp2_with (first
          | (go_at_call 106; rw [HWB.out]; refine cS0.mono ?_; rintro e w2 ⟨rfl, hb2⟩; have B2 := Lib.hid hb2; have S2 := Lib.hid hb2.size; have O2 : Hid (w2.ownsRow WB.heap.size 5 1 (.slice none 0 0) 0 (([] : List Int).map (Value.int .u8))) := Lib.hid (World.ownsRow_nil w2 WB.heap.size 5 1); have q2_0 := cell_later hb2 (HC.out 0 _ rfl); have q2_1 := cell_later hb2 (HC.out 1 _ rfl); have q2_2 := cell_later hb2 (HC.out 2 _ rfl); have q2_3 := cell_later hb2 (HC.out 3 _ rfl); have q2_4 := cell_later hb2 (HC.out 4 _ rfl); have q2_5 := cell_later hb2 (HC.out 5 _ rfl); have q2_6 := cell_later hb2 (HC.out 6 _ rfl); have q2_7 := cell_later hb2 (HC.out 7 _ rfl); have q2_8 := cell_later hb2 (HC.out 8 _ rfl); have q2_9 := cell_later hb2 (HC.out 9 _ rfl); have q2_10 := cell_later hb2 (HC.out 10 _ rfl); have q2_11 := cell_later hb2 (HC.out 11 _ rfl); clear hb2)
          | (go_at_call 90; refine (put09 2 rfl O5.out S5.out HZn.out (by decide) (by decide)).mono ?_; rintro e w6 ⟨v6, rfl, h5, b5⟩; have B6 := Lib.hid (B5.out.trans b5); have O6 := Lib.hid h5; have S6 := Lib.hid (Nat.le_trans S5.out b5.size); have q6_0 := cell_later B6.out (HC.out 0 _ rfl); have q6_1 := cell_later B6.out (HC.out 1 _ rfl); have q6_2 := cell_later B6.out (HC.out 2 _ rfl); have q6_3 := cell_later B6.out (HC.out 3 _ rfl); have q6_4 := cell_later B6.out (HC.out 4 _ rfl); have q6_5 := cell_later B6.out (HC.out 5 _ rfl); have q6_6 := cell_later B6.out (HC.out 6 _ rfl); have q6_7 := cell_later B6.out (HC.out 7 _ rfl); have q6_8 := cell_later B6.out (HC.out 8 _ rfl); have q6_9 := cell_later B6.out (HC.out 9 _ rfl); have q6_10 := cell_later B6.out (HC.out 10 _ rfl); have q6_11 := cell_later B6.out (HC.out 11 _ rfl); clear h5 b5)
          | (go_at_call 90; refine (put09 2 rfl O4.out S4.out HLn.out (by decide) (by decide)).mono ?_; rintro e w5 ⟨v5, rfl, h5, b5⟩; have B5 := Lib.hid (B4.out.trans b5); have O5 := Lib.hid h5; have S5 := Lib.hid (Nat.le_trans S4.out b5.size); have q5_0 := cell_later B5.out (HC.out 0 _ rfl); have q5_1 := cell_later B5.out (HC.out 1 _ rfl); have q5_2 := cell_later B5.out (HC.out 2 _ rfl); have q5_3 := cell_later B5.out (HC.out 3 _ rfl); have q5_4 := cell_later B5.out (HC.out 4 _ rfl); have q5_5 := cell_later B5.out (HC.out 5 _ rfl); have q5_6 := cell_later B5.out (HC.out 6 _ rfl); have q5_7 := cell_later B5.out (HC.out 7 _ rfl); have q5_8 := cell_later B5.out (HC.out 8 _ rfl); have q5_9 := cell_later B5.out (HC.out 9 _ rfl); have q5_10 := cell_later B5.out (HC.out 10 _ rfl); have q5_11 := cell_later B5.out (HC.out 11 _ rfl); clear h5 b5)
          | (go_at_call 90; refine (put09 1 rfl O3.out S3.out HFn.out (by decide) (by decide)).mono ?_; rintro e w4 ⟨v4, rfl, h5, b5⟩; have B4 := Lib.hid (B3.out.trans b5); have O4 := Lib.hid h5; have S4 := Lib.hid (Nat.le_trans S3.out b5.size); have q4_0 := cell_later B4.out (HC.out 0 _ rfl); have q4_1 := cell_later B4.out (HC.out 1 _ rfl); have q4_2 := cell_later B4.out (HC.out 2 _ rfl); have q4_3 := cell_later B4.out (HC.out 3 _ rfl); have q4_4 := cell_later B4.out (HC.out 4 _ rfl); have q4_5 := cell_later B4.out (HC.out 5 _ rfl); have q4_6 := cell_later B4.out (HC.out 6 _ rfl); have q4_7 := cell_later B4.out (HC.out 7 _ rfl); have q4_8 := cell_later B4.out (HC.out 8 _ rfl); have q4_9 := cell_later B4.out (HC.out 9 _ rfl); have q4_10 := cell_later B4.out (HC.out 10 _ rfl); have q4_11 := cell_later B4.out (HC.out 11 _ rfl); clear h5 b5)
          | (go_at_call 90; refine (put09 1 rfl O2.out S2.out HKn.out (by decide) (by decide)).mono ?_; rintro e w3 ⟨v3, rfl, h5, b5⟩; have B3 := Lib.hid (B2.out.trans b5); have O3 := Lib.hid h5; have S3 := Lib.hid (Nat.le_trans S2.out b5.size); have q3_0 := cell_later B3.out (HC.out 0 _ rfl); have q3_1 := cell_later B3.out (HC.out 1 _ rfl); have q3_2 := cell_later B3.out (HC.out 2 _ rfl); have q3_3 := cell_later B3.out (HC.out 3 _ rfl); have q3_4 := cell_later B3.out (HC.out 4 _ rfl); have q3_5 := cell_later B3.out (HC.out 5 _ rfl); have q3_6 := cell_later B3.out (HC.out 6 _ rfl); have q3_7 := cell_later B3.out (HC.out 7 _ rfl); have q3_8 := cell_later B3.out (HC.out 8 _ rfl); have q3_9 := cell_later B3.out (HC.out 9 _ rfl); have q3_10 := cell_later B3.out (HC.out 10 _ rfl); have q3_11 := cell_later B3.out (HC.out 11 _ rfl); clear h5 b5))
      have HBASE := Lib.hid (Nat.le_refl WB.heap.size)
      have HHH : Hid (w6.ownsRow WB.heap.size 5 1 v6 6 ((nodeH ⟨k, f, l, z, d0, d1, d2, d3, s, t, x, c⟩).map (Value.int .u8))) := Lib.hid O6.out
      go_wp2_with (go_at_call 108; refine (all09g_any k f l z d0 d1 d2 d3 s t ao m cap c _).mono ?_; rintro e w7 ⟨g, rfl, h7, b7⟩; have G7 := Lib.hid h7; have O7 := Lib.hid (owns_later HHH.out b7); have B7 := Lib.hid (B6.out.trans (b7.mono S6.out)); have S7 := Lib.hid (Nat.le_trans S6.out b7.size); clear h7 b7)
      go_loopw [4, 7] (fun vv iv wr => ∃ i : Int, iv = .int .i64 i ∧ (0 ≤ i ∧ i ≤ 6) ∧ Hid (wr.ownsRow WB.heap.size 5 1 vv (6 + 2 * i.toNat) ((nodeH ⟨k, f, l, z, d0, d1, d2, d3, s, t, x, c⟩ ++ putsB ([d0, d1, d2, d3, s, t].take i.toNat)).map (Value.int .u8))) ∧ Hid (Below WB.heap.size WB wr) ∧ Hid (wr.heap[g]? = some (sixObj [d0, d1, d2, d3, s, t]))) (fun _ iv _ => 6 - (intOf iv).toNat)
      case atStart => exact ⟨0, rfl, by decide, Lib.hid (by rw [show putsB ([d0, d1, d2, d3, s, t].take (Int.toNat 0)) = [] from rfl, List.append_nil]; exact O7.out), B7, G7⟩
      case round =>
        obtain ⟨i, rfl, hi, HR, HB, HG⟩ := hrel
        by_cases hlt : i < 6
        · obtain ⟨y, hy⟩ : ∃ y, [d0, d1, d2, d3, s, t][i.toNat]? = some y := ⟨_, List.getElem?_eq_getElem (by show i.toNat < 6; omega)⟩
          have hyu := HPU.out y (List.mem_of_getElem? hy)
          have d := six_obj HG.out hy
          have i1 : i < 6 := hlt
          have i0 : 0 ≤ i := hi.1
          have HS : Hid (WB.heap.size ≤ wr.heap.size) := Lib.hid HB.out.size
          have cP := Put09g_any WB.heap.size _ (6 + 2 * i.toNat) _ y 2 g _ wr HR.out HS.out hyu.1 (by have := hyu.2; omega) (by decide) (by omega) HG.out (sixObj_ty _)
          have HT : Hid (putsB ([d0, d1, d2, d3, s, t].take (i.toNat + 1)) = putsB ([d0, d1, d2, d3, s, t].take i.toNat) ++ leB y 2) := Lib.hid (by
            rw [List.take_add_one, hy]
            unfold putsB
            rw [List.flatMap_append]
            simp)
          have CP := Lib.hid cP
          clear hy cP hyu
          go_wp2_with (go_at_call 90; refine CP.out.mono ?_; rintro e w8 ⟨⟨v8, rfl, h8, b8⟩, g8⟩; have O8 := Lib.hid h8; have B8 := Lib.hid (HB.out.trans b8); have G8 := Lib.hid g8; clear h8 b8 g8)
          go_roundw
          case rel => exact ⟨i + 1, by go_num, by omega, Lib.hid (by rw [show (i + 1).toNat = i.toNat + 1 by omega, HT.out, ← List.append_assoc, show 6 + 2 * (i.toNat + 1) = 6 + 2 * i.toNat + 2 by omega]; exact O8.out), B8, G8⟩
          case measure => simp [intOf]; omega
        · have hin : i = 6 := by omega
          subst hin
          have hTT : putsB ([d0, d1, d2, d3, s, t].take 6) = nodeP ⟨k, f, l, z, d0, d1, d2, d3, s, t, x, c⟩ := puts_node _ _ _ _ _ _ _ _ _ _ _ _
          have HR' : Hid (_root_.Go.World.ownsRow wr WB.heap.size 5 1 _ 18 ((nodeH ⟨k, f, l, z, d0, d1, d2, d3, s, t, x, c⟩ ++ nodeP ⟨k, f, l, z, d0, d1, d2, d3, s, t, x, c⟩).map (Value.int .u8))) := Lib.hid (by rw [← hTT]; exact HR.out)
          clear HR
          have HR := HR'
          clear HR'
          have hl18 : (nodeH ⟨k, f, l, z, d0, d1, d2, d3, s, t, x, c⟩ ++ nodeP ⟨k, f, l, z, d0, d1, d2, d3, s, t, x, c⟩).length = 18 := by rw [List.length_append, nodeH_length, nodeP_length]
          have hlb18 : ∀ y ∈ nodeH ⟨k, f, l, z, d0, d1, d2, d3, s, t, x, c⟩ ++ nodeP ⟨k, f, l, z, d0, d1, d2, d3, s, t, x, c⟩, 0 ≤ y ∧ y ≤ 255 := node_bytesP _
          have hpd : (nodeH ⟨k, f, l, z, d0, d1, d2, d3, s, t, x, c⟩ ++ nodeP ⟨k, f, l, z, d0, d1, d2, d3, s, t, x, c⟩) ++ List.replicate (28 - (nodeH ⟨k, f, l, z, d0, d1, d2, d3, s, t, x, c⟩ ++ nodeP ⟨k, f, l, z, d0, d1, d2, d3, s, t, x, c⟩).length) 0 = node28 ⟨k, f, l, z, d0, d1, d2, d3, s, t, x, c⟩ := by unfold node28; rw [if_neg hf2]; rfl
          obtain ⟨L, hL⟩ : ∃ L, nodeH ⟨k, f, l, z, d0, d1, d2, d3, s, t, x, c⟩ ++ nodeP ⟨k, f, l, z, d0, d1, d2, d3, s, t, x, c⟩ = L := ⟨_, rfl⟩
          rw [hL] at HR hl18 hlb18 hpd
          have HLB := Lib.hid hlb18
          have HPD := Lib.hid hpd
          have HL18 := Lib.hid hl18
          obtain ⟨o9, c9, rfl⟩ := owns_len HR.out
          clear hL hlb18 hpd hTT hl18
          go_wp2_with fail
          go_loopw [4] (fun vv wr => ∃ j : Nat, L.length ≤ j ∧ j ≤ 28 ∧ (∃ ao cap, vv = .slice ao j cap) ∧ Hid (Zeroed WB WB.heap.size L j vv wr)) (fun vv _ => 28 - lenOf9 vv)
          case atStart => exact ⟨18, by rw [HL18.out]; exact Nat.le_refl _, by decide, ⟨o9, c9, rfl⟩, Lib.hid ⟨by rw [HL18.out, Nat.sub_self, List.replicate_zero, List.append_nil]; exact HR.out, HB.out⟩⟩
          case round =>
            obtain ⟨j, hj1, hj2, ⟨bo, bc, rfl⟩, HR⟩ := hrel
            have HS : Hid (WB.heap.size ≤ wr.heap.size) := Lib.hid (Nat.le_trans HBASE.out HR.out.2.size)
            by_cases hlt : j < 28
            · have j1 : (j : Int) < 28 := by omega
              go_wp2_with (at_builtin; refine wp_append_bytes rfl (.tmp 68) (.tmp 69) rfl WB.heap.size j _ _ rfl (HR.out.1.alloc _) (some ⟨wr.heap.size, 0, none⟩) 1 1 [0] rfl (one_bts wr 0 (by decide)) (by simp) (by omega) (by have := HS.out; simp; omega) ?_; intro v1 w1 hown1 hb1; have HZ1 := Lib.hid (zeroed_step HR.out hj1 hown1 hb1 HS.out); obtain ⟨b1, c1, rfl⟩ := owns_len hown1; clear hown1 hb1)
              go_roundw
              case rel => first | exact ⟨j + 1, by omega, by omega, ⟨b1, c1, rfl⟩, HZ1⟩ | (refine ⟨.slice b1 (j + 1) c1, _, _, _, _, _, _, ⟨j + 1, by omega, by omega, ⟨b1, c1, rfl⟩, HZ1⟩, ?_⟩; rfl)
              case measure => simp [lenOf9]; omega
            · have hjt : j = 28 := by omega
              subst hjt
              have hbt : ∀ y ∈ L ++ List.replicate (28 - L.length) 0, 0 ≤ y ∧ y ≤ 255 := fun y hy => by
                rcases List.mem_append.1 hy with h | h
                · exact HLB.out y h
                · rw [List.eq_of_mem_replicate h]; decide
              have hP : Hid (L ++ List.replicate (28 - L.length) 0 = node28 ⟨k, f, l, z, d0, d1, d2, d3, s, t, x, c⟩) := Lib.hid (HPD.out)
              rw [hP.out] at hbt
              have hown := HR.out.1
              rw [hP.out] at hown
              obtain ⟨bo', bc', hv', hB'⟩ := owns_bts hown hbt (by decide)
              cases hv'
              have cS := refSum_any bo 28 bc (node28 ⟨k, f, l, z, d0, d1, d2, d3, s, t, x, c⟩) wr hB'
              have hsb := sumS_bounds (node28 ⟨k, f, l, z, d0, d1, d2, d3, s, t, x, c⟩)
              have HOW := Lib.hid hown
              have HBF := Lib.hid HR.out.2
              have HNB := Lib.hid hbt
              have HN32 : Hid (node32 ⟨k, f, l, z, d0, d1, d2, d3, s, t, x, c⟩ = node28 ⟨k, f, l, z, d0, d1, d2, d3, s, t, x, c⟩ ++ leB (sumS (node28 ⟨k, f, l, z, d0, d1, d2, d3, s, t, x, c⟩)) 4) := Lib.hid rfl
              generalize node28 ⟨k, f, l, z, d0, d1, d2, d3, s, t, x, c⟩ = M at *
              generalize sumS M = SS at *
              have hw : IntKind.i64.wrap SS = SS := by rw [IntKind.wrap_i64]; omega
              clear hbt hown hB'
              go_wp2_with (first
                | (go_at_call 105; refine cS.mono ?_; rintro e w7 ⟨rfl, rfl⟩)
                | (go_at_call 90; refine (put09 4 rfl HOW.out HS.out (by omega) (by decide) (by decide)).mono ?_; rintro e w8 ⟨v8, rfl, h5, b5⟩; have B8 := Lib.hid (HBF.out.trans b5); have O8 := Lib.hid h5; clear h5 b5))
              go_ret2
              exact ⟨v8, by rw [HO.out.2]; rfl, by rw [HO.out.1, HN32.out]; exact (fresh_of_owns O8.out (fun y hy => by
                rcases List.mem_append.1 hy with h | h
                · exact HNB.out y h
                · exact leB_bytes _ _ y h) (by decide)).mono W1.out.size, W1.out.trans (B8.out.mono W1.out.size)⟩

end Go.Proofs.YtmcblhgpcgnaoaaGreatDoor


namespace Go.Proofs.YtmcblhgpcgnaoaaGreatDoor
open Go.RowKit
set_option linter.unusedVariables false
set_option linter.unusedSimpArgs false

/-- A node's variable: its numbers, and its list. -/
def NodeVar (w0 : World) (g : Nat) (V : Nat → Int) (sl : Value) (wr : World) : Prop :=
  Below w0.heap.size w0 wr ∧ (∀ o, o < 12 → o ≠ 10 → wr.cell? ⟨g, o, none⟩ = some (.int .i64 (V o))) ∧ wr.cell? ⟨g, 10, none⟩ = some sl ∧ ∀ j, wr.frozen? ⟨g, j, none⟩ = false

theorem NodeVar.lt {w0 wr : World} {g : Nat} {V : Nat → Int} {sl : Value} (h : NodeVar w0 g V sl wr) : g < wr.heap.size := World.block_lt_of_cell? _ _ h.2.2.1

theorem NodeVar.later {w0 wr wx : World} {g : Nat} {V : Nat → Int} {sl : Value} (h : NodeVar w0 g V sl wr) (hb : Below wr.heap.size wr wx) : NodeVar w0 g V sl wx :=
  ⟨h.1.trans (hb.mono h.1.size), fun o h1 h2 => cell_later hb (h.2.1 o h1 h2), cell_later hb h.2.2.1, fun j => by rw [hb.frozen (p := ⟨g, j, none⟩) h.lt]; exact h.2.2.2 j⟩

theorem NodeVar.set {w0 wr : World} {g k : Nat} {V : Nat → Int} {sl : Value} (h : NodeVar w0 g V sl wr) (hg : w0.heap.size ≤ g) (hk : k < 12) (hk10 : k ≠ 10) (x : Int) : NodeVar w0 g (fun o => if o = k then x else V o) sl (wr.setCell ⟨g, k, none⟩ (.int .i64 x)) := by
  refine ⟨h.1.setCell (p := ⟨g, k, none⟩) hg _, fun o ho hne => ?_, ?_, fun j => by simpa using h.2.2.2 j⟩
  · show (wr.setCell ⟨g, k, none⟩ (.int .i64 x)).cell? ⟨g, o, none⟩ = some (.int .i64 (if o = k then x else V o))
    by_cases e : o = k
    · subst e
      rw [if_pos rfl]
      exact World.cell?_setCell_same wr _ _ (h.2.1 o ho hne)
    · rw [if_neg e, World.cell?_setCell_other (h := by intro e'; exact e (by simpa using (congrArg Addr.off e').symm))]
      exact h.2.1 o ho hne
  · rw [World.cell?_setCell_other (h := by intro e'; exact hk10 (by simpa using congrArg Addr.off e'))]
    exact h.2.2.1

theorem NodeVar.drew {w0 wr : World} {g : Nat} {V : Nat → Int} {sl : Value} (h : NodeVar w0 g V sl wr) : NodeVar w0 g V sl wr.drew := ⟨h.1.drew, fun o h1 h2 => h.2.1 o h1 h2, h.2.2.1, fun j => h.2.2.2 j⟩

theorem NodeVar.congr {w0 wr : World} {g : Nat} {V U : Nat → Int} {sl : Value} (h : NodeVar w0 g V sl wr) (he : ∀ o, o < 12 → o ≠ 10 → V o = U o) : NodeVar w0 g U sl wr :=
  ⟨h.1, fun o h1 h2 => by rw [h.2.1 o h1 h2, he o h1 h2], h.2.2⟩

/-- What is read of bytes that are as many as there should be, in the document's own way. -/
def rSlots (zs : List Int) : List PX := [⟨zs.getD 6 0, leN zs 7 2, zs.getD 9 0⟩, ⟨zs.getD 10 0, leN zs 11 2, zs.getD 13 0⟩, ⟨zs.getD 14 0, leN zs 15 2, zs.getD 17 0⟩]
def rFil (l : List PX) : List PX := l.filter fun x => !decide (x = noX)
def rNode (zs : List Int) : PNode :=
  if zs.getD 1 0 = 2 then ⟨zs.getD 0 0, 2, leN zs 2 2, leN zs 4 2, 0, 0, 0, 0, 0, 0, rFil (rSlots zs), leN zs 18 2⟩
  else ⟨zs.getD 0 0, zs.getD 1 0, leN zs 2 2, leN zs 4 2, leN zs 6 2, leN zs 8 2, leN zs 10 2, leN zs 12 2, leN zs 14 2, leN zs 16 2, [], 0⟩
theorem sub_leN {zs : List Int} {i : Nat} (h : i + 4 ≤ zs.length) : ((zs.drop i).take 4).getD 0 0 = zs.getD i 0 ∧ leN ((zs.drop i).take 4) 1 2 = leN zs (i + 1) 2 ∧ ((zs.drop i).take 4).getD 3 0 = zs.getD (i + 3) 0 := by
  have e : ∀ j, j < 4 → ((zs.drop i).take 4).getD j 0 = zs.getD (i + j) 0 := fun j hj => by
    rw [take_getD _ _ _ hj, List.getD_eq_getElem?_getD, List.getElem?_drop, ← List.getD_eq_getElem?_getD]
  refine ⟨e 0 (by decide), leN_of_eq 2 (fun j hj => ?_), e 3 (by decide)⟩
  rw [e (1 + j) (by omega), show i + (1 + j) = i + 1 + j by omega]

theorem four_of {l : List Int} (h : l.length = 4) : l = [l.getD 0 0, l.getD 1 0, l.getD 2 0, l.getD 3 0] := by
  match l, h with
  | [a, b, c, d], _ => rfl

theorem sub_zero {zs : List Int} (hz : ∀ z ∈ zs, 0 ≤ z ∧ z ≤ 255) {i : Nat} (h : i + 4 ≤ zs.length) : decide ((zs.drop i).take 4 = [0, 0, 0, 0]) = decide ((⟨zs.getD i 0, leN zs (i + 1) 2, zs.getD (i + 3) 0⟩ : PX) = noX) := by
  have hl : ((zs.drop i).take 4).length = 4 := by rw [List.length_take, List.length_drop]; omega
  obtain ⟨e0, e1, e3⟩ := sub_leN h
  have hb : ∀ j, j < 4 → 0 ≤ ((zs.drop i).take 4).getD j 0 := fun j hj => (hz _ (List.mem_of_mem_drop (List.mem_of_mem_take (getD_mem (by omega))))).1
  have b1 := hb 1 (by decide)
  have b2 := hb 2 (by decide)
  rw [← e0, ← e1, ← e3]
  generalize (zs.drop i).take 4 = l at *
  have e : leN l 1 2 = l.getD 1 0 + l.getD 2 0 * 256 := by
    show 0 + l.getD (1 + 0) 0 * 256 ^ 0 + l.getD (1 + 1) 0 * 256 ^ 1 = _
    rw [Nat.add_zero, show 1 + 1 = 2 from rfl]
    omega
  rw [e, Bool.eq_iff_iff, decide_eq_true_iff, decide_eq_true_iff]
  constructor
  · intro h'
    rw [h']
    rfl
  · intro h'
    have h1 : l.getD 0 0 = 0 := congrArg PX.a h'
    have h2 : l.getD 1 0 + l.getD 2 0 * 256 = 0 := congrArg PX.f h'
    have h3 : l.getD 3 0 = 0 := congrArg PX.c h'
    rw [four_of hl, h1, h3, show l.getD 1 0 = 0 by omega, show l.getD 2 0 = 0 by omega]

end Go.Proofs.YtmcblhgpcgnaoaaGreatDoor


namespace Go.Proofs.YtmcblhgpcgnaoaaGreatDoor
open Go.RowKit
set_option linter.unusedVariables false
set_option linter.unusedSimpArgs false

theorem leN_one (zs : List Int) (p : Nat) : leN zs p 1 = zs.getD p 0 := by
  show 0 + zs.getD (p + 0) 0 * 256 ^ 0 = _
  rw [Nat.add_zero, show (256 : Int) ^ 0 = 1 from rfl]
  omega

theorem pad_getD {zs : List Int} (h : zs.length = 32) {k : Nat} (hk : k < 32) : (pad64n zs).getD k 0 = zs.getD k 0 := by
  unfold pad64n
  rw [lay_eq _ _ _ (by show 0 + _ ≤ 64; rw [List.length_take]; omega)]
  rw [List.take_zero, List.nil_append, List.take_of_length_le (by omega), List.getD_eq_getElem?_getD, List.getElem?_append_left (by omega), ← List.getD_eq_getElem?_getD]

theorem getOut_pad {zs : List Int} (h : zs.length = 32) (p k : Nat) (hp : p + k ≤ 32) (hk : 1 ≤ k ∧ k ≤ 4) : getOut (pad64n zs) (p : Int) (k : Int) = leN zs p k := by
  unfold getOut
  rw [pad64n_length]
  have e : fErr 64 (p : Int) (k : Int) = 0 := by
    unfold fErr
    rw [if_pos rfl]
    split <;> omega
  rw [if_pos e]
  exact leN_of_eq k (fun j hj => pad_getD h (by simp only [Int.toNat_natCast]; omega))

theorem bk1 {x : Int} (h : 0 ≤ x ∧ x ≤ 255) : x / 256 ^ 0 % 256 = x := by rw [show (256 : Int) ^ 0 = 1 from rfl]; omega
theorem bk2 {x : Int} (h : 0 ≤ x ∧ x ≤ 65535) : 0 + x / 256 ^ 0 % 256 * 256 ^ 0 + x / 256 ^ 1 % 256 * 256 ^ 1 = x := by rw [show (256 : Int) ^ 0 = 1 from rfl, show (256 : Int) ^ 1 = 256 from rfl]; omega

theorem slots_bytes (n : PNode) (x : List PX) (R : List Int) : rSlots (nodeH n ++ (slotB x ++ R)) = [⟨slotI x 0 / 256 ^ 0 % 256, 0 + slotI x 1 / 256 ^ 0 % 256 * 256 ^ 0 + slotI x 1 / 256 ^ 1 % 256 * 256 ^ 1, slotI x 2 / 256 ^ 0 % 256⟩, ⟨slotI x 3 / 256 ^ 0 % 256, 0 + slotI x 4 / 256 ^ 0 % 256 * 256 ^ 0 + slotI x 4 / 256 ^ 1 % 256 * 256 ^ 1, slotI x 5 / 256 ^ 0 % 256⟩, ⟨slotI x 6 / 256 ^ 0 % 256, 0 + slotI x 7 / 256 ^ 0 % 256 * 256 ^ 0 + slotI x 7 / 256 ^ 1 % 256 * 256 ^ 1, slotI x 8 / 256 ^ 0 % 256⟩] := rfl

theorem slots_back {n : PNode} (hf : n.f = 2) (h3 : n.x.length ≤ 3) (hs : ∀ x ∈ n.x, smallX x) : rSlots (node32 n) = n.x ++ List.replicate (3 - n.x.length) noX := by
  have e : ∃ R, node32 n = nodeH n ++ (slotB n.x ++ R) := by
    unfold node32 node28
    rw [if_pos hf, pad_slots n h3]
    unfold pad
    simp only [List.append_assoc]
    exact ⟨_, rfl⟩
  obtain ⟨R, e⟩ := e
  rw [e, slots_bytes]
  obtain ⟨s0, s1, s2, s3, s4, s5, s6, s7, s8⟩ := slot_fits n.x h3 hs
  rw [bk1 s0, bk2 s1, bk1 s2, bk1 s3, bk2 s4, bk1 s5, bk1 s6, bk2 s7, bk1 s8]
  clear e s0 s1 s2 s3 s4 s5 s6 s7 s8 hs
  generalize n.x = l at *
  match l, h3 with
  | [], _ => rfl
  | [a], _ => rfl
  | [a, b], _ => rfl
  | [a, b, c], _ => rfl
  | _ :: _ :: _ :: _ :: _, h => exact absurd h (by simp)

theorem sound_mem : ∀ (l prev : List PX) (e b : Int), soundFrom prev e b l = true → ∀ x ∈ l, runOk x.f x.c = true ∧ 59 ≤ x.f
  | [], _, _, _, _, x, hx => by cases hx
  | y :: r, prev, e, b, h, x, hx => by
    unfold soundFrom okX at h
    simp only [Bool.and_eq_true, decide_eq_true_eq] at h
    rcases List.mem_cons.1 hx with rfl | hx
    · exact ⟨h.1.1, h.1.2.1⟩
    · exact sound_mem r _ _ _ h.2.2 x hx

theorem sound_two {n : PNode} (h : n.sound = true) (hf : n.f = 2) : n.x.length ≤ 3 ∧ ∀ x ∈ n.x, x ≠ noX ∧ fixX x = x := by
  rcases sound_f h with rfl | ⟨_, hm, _⟩
  · exact absurd hf (by decide)
  · unfold PNode.mapOk at hm
    rw [hf, if_neg (by decide), if_pos rfl] at hm
    simp only [Bool.and_eq_true] at hm
    have hx := hm.2.1
    unfold soundXs at hx
    simp only [Bool.and_eq_true, decide_eq_true_eq] at hx
    refine ⟨hx.1, fun x hm' => ?_⟩
    have h := sound_mem n.x [] 0 0 hx.2 x hm'
    refine ⟨fun e => ?_, ?_⟩
    · rw [e] at h
      exact absurd h.2 (by decide)
    · unfold fixX partA partB
      rw [if_pos h.1, if_pos h.1]

theorem fil_back {X : List PX} {m : Nat} (h : ∀ x ∈ X, x ≠ noX ∧ fixX x = x) : rFil (X ++ List.replicate m noX) = X ∧ gotX (X ++ List.replicate m noX) = X := by
  constructor
  · unfold rFil
    rw [List.filter_append, List.filter_eq_self.2 (fun x hx => by simp [(h x hx).1]), List.filter_eq_nil_iff.2 (fun x hx => by rw [List.eq_of_mem_replicate hx]; simp), List.append_nil]
  · unfold gotX
    have e : ∀ (X : List PX), (∀ x ∈ X, x ≠ noX ∧ fixX x = x) → ((X ++ List.replicate m noX).takeWhile fun x => !decide (x = noX)).map fixX = X := by
      intro X
      induction X with
      | nil =>
        intro _
        cases m with
        | zero => rfl
        | succ m => rfl
      | cons a r ih =>
        intro h
        have ha := h a (by simp)
        rw [List.cons_append, List.takeWhile_cons]
        rw [if_pos (by simp [ha.1]), List.map_cons, ha.2, ih (fun x hx => h x (by simp [hx]))]
    exact e X h

theorem got_headN {zs : List Int} (h : zs.length = 32) : gotV (pad64n zs) headPs9 (fun _ => 0) 1 = zs.getD 1 0 := by
  show getOut (pad64n zs) ((1 : Nat) : Int) ((1 : Nat) : Int) = _
  rw [getOut_pad h 1 1 (by decide) (by decide), leN_one]

theorem got_one {zs : List Int} (h : zs.length = 32) (hf : zs.getD 1 0 = 1) : gotN zs = rNode zs := by
  have g : ∀ (p k : Nat), p + k ≤ 32 → 1 ≤ k ∧ k ≤ 4 → getOut (pad64n zs) (p : Int) (k : Int) = leN zs p k := fun p k h1 h2 => getOut_pad h p k h1 h2
  unfold gotN readN readV
  rw [got_headN h, hf, show bodyPs 1 = oldPs from rfl]
  unfold rNode
  rw [if_neg (by rw [hf]; decide), ← leN_one zs 0, ← leN_one zs 1]
  rw [← g 0 1 (by decide) (by decide), ← g 1 1 (by decide) (by decide), ← g 2 2 (by decide) (by decide), ← g 4 2 (by decide) (by decide), ← g 6 2 (by decide) (by decide), ← g 8 2 (by decide) (by decide), ← g 10 2 (by decide) (by decide), ← g 12 2 (by decide) (by decide), ← g 14 2 (by decide) (by decide), ← g 16 2 (by decide) (by decide)]
  rfl

theorem got_two {zs : List Int} (h : zs.length = 32) (hf : zs.getD 1 0 = 2) : gotN zs = ⟨zs.getD 0 0, 2, leN zs 2 2, leN zs 4 2, 0, 0, 0, 0, 0, 0, gotX (rSlots zs), leN zs 18 2⟩ := by
  have g : ∀ (p k : Nat), p + k ≤ 32 → 1 ≤ k ∧ k ≤ 4 → getOut (pad64n zs) (p : Int) (k : Int) = leN zs p k := fun p k h1 h2 => getOut_pad h p k h1 h2
  unfold gotN readN readV
  rw [got_headN h, hf, show bodyPs 2 = newPs from rfl]
  unfold rSlots
  rw [show (2 : Int) = zs.getD 1 0 from hf.symm]
  rw [← leN_one zs 0, ← leN_one zs 1, ← leN_one zs 6, ← leN_one zs 9, ← leN_one zs 10, ← leN_one zs 13, ← leN_one zs 14, ← leN_one zs 17]
  rw [← g 0 1 (by decide) (by decide), ← g 1 1 (by decide) (by decide), ← g 2 2 (by decide) (by decide), ← g 4 2 (by decide) (by decide), ← g 6 1 (by decide) (by decide), ← g 7 2 (by decide) (by decide), ← g 9 1 (by decide) (by decide), ← g 10 1 (by decide) (by decide), ← g 11 2 (by decide) (by decide), ← g 13 1 (by decide) (by decide), ← g 14 1 (by decide) (by decide), ← g 15 2 (by decide) (by decide), ← g 17 1 (by decide) (by decide), ← g 18 2 (by decide) (by decide)]
  rfl

theorem got_no {zs : List Int} (h : zs.length = 32) (h1 : zs.getD 1 0 ≠ 1) (h2 : zs.getD 1 0 ≠ 2) : gotN zs = ⟨zs.getD 0 0, zs.getD 1 0, leN zs 2 2, leN zs 4 2, 0, 0, 0, 0, 0, 0, [], 0⟩ := by
  have g : ∀ (p k : Nat), p + k ≤ 32 → 1 ≤ k ∧ k ≤ 4 → getOut (pad64n zs) (p : Int) (k : Int) = leN zs p k := fun p k h1 h2 => getOut_pad h p k h1 h2
  have e : bodyPs (zs.getD 1 0) = [] := by unfold bodyPs; rw [if_neg h1, if_neg h2]
  unfold gotN readN readV
  rw [got_headN h, e]
  rw [← leN_one zs 0, ← leN_one zs 1]
  rw [← g 0 1 (by decide) (by decide), ← g 1 1 (by decide) (by decide), ← g 2 2 (by decide) (by decide), ← g 4 2 (by decide) (by decide)]
  rfl

theorem sound_other {n : PNode} (h : n.sound = true) (h1 : n.f ≠ 1) (h2 : n.f ≠ 2) : n = noNode := by
  rcases sound_f h with h | ⟨_, _, hf | hf⟩
  · exact h
  · exact absurd hf h1
  · exact absurd hf h2

end Go.Proofs.YtmcblhgpcgnaoaaGreatDoor



namespace Go.Proofs.YtmcblhgpcgnaoaaGreatDoor
set_option linter.unusedVariables false
set_option linter.unusedSimpArgs false

theorem node_old {k l z d0 d1 d2 d3 s t : Int} (hk : 0 ≤ k ∧ k ≤ 255) (hl : u16 l) (hz : u16 z) (h0 : u16 d0) (h1 : u16 d1) (h2 : u16 d2) (h3 : u16 d3) (hs : u16 s) (ht : u16 t) :
    rNode (node32 ⟨k, 1, l, z, d0, d1, d2, d3, s, t, [], 0⟩) = ⟨k, 1, l, z, d0, d1, d2, d3, s, t, [], 0⟩ ∧ (node32 ⟨k, 1, l, z, d0, d1, d2, d3, s, t, [], 0⟩).getD 1 0 = 1 := by
  have e1 : (node32 ⟨k, 1, l, z, d0, d1, d2, d3, s, t, [], 0⟩).getD 1 0 = 1 := rfl
  refine ⟨?_, e1⟩
  unfold rNode
  rw [if_neg (by rw [e1]; decide), e1]
  have a0 : (node32 ⟨k, 1, l, z, d0, d1, d2, d3, s, t, [], 0⟩).getD 0 0 = k := bk1 hk
  have a1 : leN (node32 ⟨k, 1, l, z, d0, d1, d2, d3, s, t, [], 0⟩) 2 2 = l := bk2 hl
  have a2 : leN (node32 ⟨k, 1, l, z, d0, d1, d2, d3, s, t, [], 0⟩) 4 2 = z := bk2 hz
  have a3 : leN (node32 ⟨k, 1, l, z, d0, d1, d2, d3, s, t, [], 0⟩) 6 2 = d0 := bk2 h0
  have a4 : leN (node32 ⟨k, 1, l, z, d0, d1, d2, d3, s, t, [], 0⟩) 8 2 = d1 := bk2 h1
  have a5 : leN (node32 ⟨k, 1, l, z, d0, d1, d2, d3, s, t, [], 0⟩) 10 2 = d2 := bk2 h2
  have a6 : leN (node32 ⟨k, 1, l, z, d0, d1, d2, d3, s, t, [], 0⟩) 12 2 = d3 := bk2 h3
  have a7 : leN (node32 ⟨k, 1, l, z, d0, d1, d2, d3, s, t, [], 0⟩) 14 2 = s := bk2 hs
  have a8 : leN (node32 ⟨k, 1, l, z, d0, d1, d2, d3, s, t, [], 0⟩) 16 2 = t := bk2 ht
  rw [a0, a1, a2, a3, a4, a5, a6, a7, a8]

theorem exBk_length (x : List PX) : (exB x).length = x.length * 4 := by
  unfold exB
  induction x with
  | nil => rfl
  | cons a t ih => rw [List.flatMap_cons, List.length_append, ih]; simp [leB_length]; omega
theorem chain_back {k l z c : Int} {x : List PX} (h3 : x.length ≤ 3) (hc : u16 c) : leN (node32 ⟨k, 2, l, z, 0, 0, 0, 0, 0, 0, x, c⟩) 18 2 = c := by
  obtain ⟨A, hA⟩ : ∃ A, pad 18 (nodeH ⟨k, 2, l, z, 0, 0, 0, 0, 0, 0, x, c⟩ ++ exB x) = A := ⟨_, rfl⟩
  have hl : A.length = 18 := by
    rw [← hA]
    have e1 : (nodeH ⟨k, 2, l, z, 0, 0, 0, 0, 0, 0, x, c⟩).length = 6 := rfl
    have e3 := exBk_length x
    unfold pad
    simp only [List.length_append, List.length_replicate, e1, e3]
    omega
  obtain ⟨R, hR⟩ : ∃ R, node32 ⟨k, 2, l, z, 0, 0, 0, 0, 0, 0, x, c⟩ = A ++ (leB c 2 ++ R) := by
    unfold node32 node28
    rw [if_pos rfl]
    dsimp only
    rw [hA]
    unfold pad
    exact ⟨_, by rw [List.append_assoc, List.append_assoc]⟩
  rw [hR]
  have e : leN (A ++ (leB c 2 ++ R)) 18 2 = leN (leB c 2 ++ R) 0 2 := leN_of_eq 2 (fun j hj => by
    rw [List.getD_eq_getElem?_getD, List.getElem?_append_right (by omega), hl, show 18 + j - 18 = 0 + j by omega, ← List.getD_eq_getElem?_getD])
  rw [e]
  exact bk2 hc

theorem dec_of {n : PNode} (h : gotN (node32 n) = n) (hs : n.sound = true) : isNode (node32 n) = true ∧ decN (node32 n) = n := by
  have hi : isNode (node32 n) = true := by
    unfold isNode
    rw [h, hs]
    simp
  exact ⟨hi, by unfold decN; rw [if_pos hi, h]⟩

theorem node_len {n : PNode} (h : n.x.length ≤ 3) : (node32 n).length = 32 := by
  unfold node32
  rw [List.length_append, node28_length h, leB_length]

/-- A sound node that was written is read as it was. -/
theorem node_back {n : PNode} (hs : n.sound = true) (hsm : n.small) : isNode (node32 n) = true ∧ decN (node32 n) = n := by
  by_cases h1 : n.f = 1
  · have hm := hs
    unfold PNode.sound at hm
    by_cases hk : n.k = 0
    · rw [if_pos hk] at hm
      have := of_decide_eq_true hm
      rw [this] at h1
      cases h1
    · rw [if_neg hk, Bool.and_eq_true] at hm
      obtain ⟨hh, hm⟩ := hm
      unfold PNode.mapOk at hm
      rw [if_pos h1] at hm
      simp only [Bool.and_eq_true, decide_eq_true_eq] at hm
      have hkk := of_decide_eq_true hh
      obtain ⟨s1, s2, s3, s4, s5, s6, s7, s8, s9, s10, s11, s12⟩ := hsm
      obtain ⟨k, f, l, z, d0, d1, d2, d3, s, t, x, c⟩ := n
      obtain ⟨_, hx, hc⟩ := hm
      dsimp only at h1 hx hc hkk s3 s4 s5 s6 s7 s8 s9 s10
      subst h1 hx hc
      obtain ⟨e, e1⟩ := node_old (k := k) (l := l) (z := z) (by omega) s3 s4 s5 s6 s7 s8 s9 s10
      exact dec_of (by rw [got_one (node_len (Nat.zero_le _)) e1, e]) hs
  · by_cases h2 : n.f = 2
    · have hm := hs
      unfold PNode.sound at hm
      by_cases hk : n.k = 0
      · rw [if_pos hk] at hm
        have := of_decide_eq_true hm
        rw [this] at h2
        cases h2
      · rw [if_neg hk, Bool.and_eq_true] at hm
        obtain ⟨hh, hm⟩ := hm
        unfold PNode.mapOk at hm
        rw [if_neg h1, if_pos h2] at hm
        simp only [Bool.and_eq_true] at hm
        obtain ⟨h3, hx⟩ := sound_two hs h2
        have hsl := slots_back h2 h3 hsm.2.2.2.2.2.2.2.2.2.2.2
        have hkk := of_decide_eq_true hh
        have hk255 : 0 ≤ n.k ∧ n.k ≤ 255 := by omega
        obtain ⟨s1, s2, s3, s4, s5, s6, s7, s8, s9, s10, s11, s12⟩ := hsm
        have hz : n.ptrs = [0, 0, 0, 0, 0, 0] := by
          have := hm.1
          unfold PNode.ptrs at this ⊢
          simp only [List.all_cons, List.all_nil, Bool.and_true, Bool.and_eq_true, decide_eq_true_eq] at this
          obtain ⟨t1, t2, t3, t4, t5, t6⟩ := this
          rw [t1, t2, t3, t4, t5, t6]
        have hl32 := node_len h3
        obtain ⟨k, f, l, z, d0, d1, d2, d3, s, t, x, c⟩ := n
        dsimp only at h2 hk255 s3 s4 s11 h3 hx hsl
        unfold PNode.ptrs at hz
        simp only [List.cons.injEq, and_true] at hz
        obtain ⟨rfl, rfl, rfl, rfl, rfl, rfl⟩ := hz
        subst h2
        have e1 : (node32 ⟨k, 2, l, z, 0, 0, 0, 0, 0, 0, x, c⟩).getD 1 0 = 2 := rfl
        refine dec_of ?_ hs
        rw [got_two hl32 e1, hsl, (fil_back hx).2]
        have a0 : (node32 ⟨k, 2, l, z, 0, 0, 0, 0, 0, 0, x, c⟩).getD 0 0 = k := bk1 hk255
        have a1 : leN (node32 ⟨k, 2, l, z, 0, 0, 0, 0, 0, 0, x, c⟩) 2 2 = l := bk2 s3
        have a2 : leN (node32 ⟨k, 2, l, z, 0, 0, 0, 0, 0, 0, x, c⟩) 4 2 = z := bk2 s4
        have a3 : leN (node32 ⟨k, 2, l, z, 0, 0, 0, 0, 0, 0, x, c⟩) 18 2 = c := by
          exact chain_back h3 s11
        rw [a0, a1, a2, a3]
    · rw [sound_other hs h1 h2]
      have hl32 : (node32 noNode).length = 32 := node_len (by decide)
      exact dec_of (by rw [got_no hl32 (by decide) (by decide)]; rfl) (by decide)
end Go.Proofs.YtmcblhgpcgnaoaaGreatDoor


namespace Go.Proofs.YtmcblhgpcgnaoaaGreatDoor
set_option linter.unusedVariables false
set_option linter.unusedSimpArgs false

theorem gets_set {α : Type} (B : List α) (i j : Nat) (v d : α) : (B.set i v).getD j d = if i = j ∧ i < B.length then v else B.getD j d := by
  simp only [List.getD_eq_getElem?_getD, List.getElem?_set]
  by_cases h : i = j
  · subst h
    by_cases h2 : i < B.length
    · simp [h2]
    · simp [h2]
  · simp [h]

/-- Each block holds 64 bytes. -/
def R64 (B : List (List Int)) : Prop := ∀ j, j < B.length → (B.getD j []).length = 64
theorem R64.set {B : List (List Int)} (h : R64 B) (i : Nat) {v : List Int} (hv : v.length = 64) : R64 (B.set i v) := fun j hj => by
  rw [List.length_set] at hj
  rw [gets_set]
  split
  · exact hv
  · exact h j hj
theorem R64.replicate (n : Nat) : R64 (List.replicate n z64) := fun j hj => by
  rw [List.length_replicate] at hj
  simp [List.getD_eq_getElem?_getD, List.getElem?_replicate, hj, z64]
theorem R64.withFlags {B : List (List Int)} (h : R64 B) (f : List Int) : R64 (withFlags B f) := h.set 2 (sealAny_length _ _)
theorem R64.withNode {B : List (List Int)} (h : R64 B) (n : Nat) (hn : 3 + n / 2 < B.length) (x : PNode) : R64 (withNode B n x) := h.set _ (by rw [lay_length]; exact h _ hn)
theorem R64.withSuper {B : List (List Int)} (h : R64 B) (s : PSup) : R64 (withSuper B s) := h.set 0 (supBlock_length s)

theorem mid_take (A X C : List Int) (o m : Nat) (hA : A.length = o) (hX : X.length = m) : ((A ++ X ++ C).drop o).take m = X := by
  subst hA hX
  rw [List.append_assoc, List.drop_left, List.take_left]

/-! ### What is set is read -/
theorem half_withNode {B : List (List Int)} {n : Nat} {x : PNode} (h : 3 + n / 2 < B.length) (h64 : (B.getD (3 + n / 2) []).length = 64) (hx : (node32 x).length = 32) (k : Nat) : halfAt (withNode B n x) k = if k = n then node32 x else halfAt B k := by
  obtain ⟨Z, hZ⟩ : ∃ Z, B.getD (3 + n / 2) [] = Z := ⟨_, rfl⟩
  rw [hZ] at h64
  have hl : lay Z (n % 2 * 32) (node32 x) = Z.take (n % 2 * 32) ++ node32 x ++ Z.drop (n % 2 * 32 + 32) := by
    rw [lay_eq _ _ _ (by rw [hx, h64]; omega), hx]
  unfold halfAt withNode
  rw [gets_set, hZ]
  by_cases hb : 3 + n / 2 = 3 + k / 2
  · rw [if_pos ⟨hb, h⟩, hl]
    by_cases hk : k = n
    · rw [if_pos hk, hk]
      exact mid_take _ _ _ _ _ (by rw [List.length_take, h64]; omega) hx
    · rw [if_neg hk, ← hb, hZ]
      rcases Nat.mod_two_eq_zero_or_one n with e | e
      · have e2 : k % 2 = 1 := by omega
        rw [e, e2]
        simp only [Nat.zero_mul, List.take_zero, List.nil_append, Nat.one_mul, Nat.zero_add]
        rw [List.drop_append_of_le_length (by omega), List.drop_eq_nil_of_le (by omega), List.nil_append]
      · have e2 : k % 2 = 0 := by omega
        rw [e, e2]
        simp only [Nat.zero_mul, Nat.one_mul, List.drop_zero, List.append_assoc]
        rw [List.take_append_of_le_length (by rw [List.length_take, h64]; omega), List.take_take]
        rfl
  · rw [if_neg (fun e => hb e.1), if_neg (fun e => hb (by rw [e]))]
theorem half_set {B : List (List Int)} {i : Nat} {v : List Int} (hi : i < 3) (k : Nat) : halfAt (B.set i v) k = halfAt B k := by
  unfold halfAt
  rw [gets_set, if_neg (fun e => by omega)]
theorem half_withFlags (B : List (List Int)) (f : List Int) (k : Nat) : halfAt (withFlags B f) k = halfAt B k := half_set (by decide) k
theorem half_withSuper (B : List (List Int)) (s : PSup) (k : Nat) : halfAt (withSuper B s) k = halfAt B k := half_set (by decide) k
theorem seal_take {f : List Int} (hf : f.length = 60) : (sealOf sumS f).take 60 = f := by
  unfold sealOf
  simp [hf, List.take_of_length_le (show f.length ≤ 60 by omega), List.take_append_of_le_length (show 60 ≤ f.length by omega)]
theorem sup_withFlags (B : List (List Int)) (f : List Int) : supAt (withFlags B f) = supAt B := by
  unfold supAt withFlags
  rw [gets_set, if_neg (fun e => by omega)]
theorem sup_withNode (B : List (List Int)) (n : Nat) (x : PNode) : supAt (withNode B n x) = supAt B := by
  unfold supAt withNode
  rw [gets_set, if_neg (fun e => by omega)]
theorem sup_withSuper {B : List (List Int)} {s : PSup} (h : 0 < B.length) (hs : s.sound = true) : supAt (withSuper B s) = s := by
  unfold supAt withSuper
  rw [gets_set, if_pos ⟨rfl, h⟩]
  exact (getSup_block hs).1

/-! ### A sound volume stays one -/
theorem sealed_seal {f : List Int} (hf : f.length = 60) : sealedB (sealOf sumS f) = true := by
  unfold sealedB
  refine decide_eq_true ⟨sealAny_length _ _, sealed_of (by omega) (sealAny_length _ _) (fun k hk => ?_)⟩
  have h := congrArg (fun l => l.getD k 0) (seal_take hf)
  simp only [List.getD_eq_getElem?_getD, List.getElem?_take, hk, if_true] at h
  simpa [List.getD_eq_getElem?_getD] using h
theorem VolOk.withFlags {B : List (List Int)} (h : VolOk B) {f : List Int} (hf : f.length = 60) : VolOk (withFlags B f) := by
  refine ⟨by rw [withFlags_length]; exact h.n64, ?_, by rw [sup_withFlags, withFlags_length]; exact h.siz, ?_, ?_, fun n hn => by rw [half_withFlags]; exact h.nodes n hn⟩
  · show isSup ((B.set 2 _).getD 0 []) = true
    rw [gets_set, if_neg (fun e => by omega)]
    exact h.sup
  · show isHead ((B.set 2 _).getD 1 []) = true
    rw [gets_set, if_neg (fun e => by omega)]
    exact h.head
  · show sealedB ((B.set 2 _).getD 2 []) = true
    rw [gets_set, if_pos ⟨rfl, by have := h.n64; omega⟩]
    exact sealed_seal hf
theorem VolOk.withNode {B : List (List Int)} (h : VolOk B) (hR : R64 B) {n : Nat} (hn : n < 32) {x : PNode} (hx : (node32 x).length = 32) (hs : x.sound = true) (hsm : x.small) : VolOk (withNode B n x) := by
  have h64 := h.n64
  refine ⟨by rw [withNode_length]; exact h.n64, ?_, by rw [sup_withNode, withNode_length]; exact h.siz, ?_, ?_, fun k hk => ?_⟩
  · show isSup ((B.set _ _).getD 0 []) = true
    rw [gets_set, if_neg (fun e => by omega)]
    exact h.sup
  · show isHead ((B.set _ _).getD 1 []) = true
    rw [gets_set, if_neg (fun e => by omega)]
    exact h.head
  · show sealedB ((B.set _ _).getD 2 []) = true
    rw [gets_set, if_neg (fun e => by omega)]
    exact h.sld
  · rw [half_withNode (by omega) (hR _ (by omega)) hx]
    split
    · exact (node_back hs hsm).1
    · exact h.nodes k hk
theorem VolOk.withSuper {B : List (List Int)} (h : VolOk B) {s : PSup} (hs : s.sound = true) (ha : s.a = (B.length : Int)) : VolOk (withSuper B s) := by
  have h64 := h.n64
  refine ⟨by rw [withSuper_length]; exact h.n64, ?_, by rw [sup_withSuper (by omega) hs, withSuper_length]; exact ha, ?_, ?_, fun n hn => by rw [half_withSuper]; exact h.nodes n hn⟩
  · show isSup ((B.set 0 _).getD 0 []) = true
    rw [gets_set, if_pos ⟨rfl, by omega⟩]
    exact is_sup hs
  · show isHead ((B.set 0 _).getD 1 []) = true
    rw [gets_set, if_neg (fun e => by omega)]
    exact h.head
  · show sealedB ((B.set 0 _).getD 2 []) = true
    rw [gets_set, if_neg (fun e => by omega)]
    exact h.sld

/-! ### An empty volume -/
theorem low_withNode (B : List (List Int)) (n j : Nat) (x : PNode) (hj : j < 3) : (withNode B n x).getD j [] = B.getD j [] := by
  unfold withNode
  rw [gets_set, if_neg (fun e => by omega)]
theorem low_freeNodes (B : List (List Int)) (n j : Nat) (hj : j < 3) : (freeNodes B n).getD j [] = B.getD j [] := by
  induction n with
  | zero => rfl
  | succ n ih =>
    show ((freeNodes B n).set _ _).getD j [] = _
    rw [gets_set, if_neg (fun e => by omega), ih]
theorem R64.freeNodes {B : List (List Int)} (h : R64 B) (h19 : 19 ≤ B.length) : ∀ n, n ≤ 32 → R64 (freeNodes B n)
  | 0, _ => h
  | n + 1, hn => (h.freeNodes h19 n (by omega)).withNode n (by rw [freeNodes_length]; omega) noNode
theorem half_freeNodes {B : List (List Int)} (h : R64 B) (h19 : 19 ≤ B.length) : ∀ n, n ≤ 32 → ∀ k, halfAt (freeNodes B n) k = if k < n then node32 noNode else halfAt B k
  | 0, _, k => by rw [if_neg (by omega)]; rfl
  | n + 1, hn, k => by
    show halfAt (withNode (freeNodes B n) n noNode) k = _
    rw [half_withNode (by rw [freeNodes_length]; omega) (h.freeNodes h19 n (by omega) _ (by rw [freeNodes_length]; omega)) (node32_len noNode_ok.2.2), half_freeNodes h h19 n (by omega) k]
    by_cases e : k = n
    · rw [if_pos e, if_pos (by omega)]
    · rw [if_neg e]
      by_cases e2 : k < n
      · rw [if_pos e2, if_pos (by omega)]
      · rw [if_neg e2, if_neg (by omega)]

/-- An empty volume's blocks ahead of its nodes. -/
def bareP (n : Nat) (f : Int) : List (List Int) := withFlags ((withSuper (List.replicate n z64) ⟨n, f, 0, 0, 0⟩).set 1 (headBlock ⟨0, 1⟩)) (markP (List.replicate 60 0) true [(0, 59)])
theorem emptyP_is (n : Nat) (f : Int) : emptyP n f = withNode (freeNodes (bareP n f) 32) 0 (rootN f) := rfl
theorem bareP_length (n : Nat) (f : Int) : (bareP n f).length = n := by
  unfold bareP
  rw [withFlags_length, List.length_set, withSuper_length, List.length_replicate]
theorem bareP_64 (n : Nat) (f : Int) : R64 (bareP n f) := (((R64.replicate n).withSuper _).set 1 (headBlock_length _)).withFlags _
theorem emptyP_64 {n : Nat} (f : Int) (h : 64 ≤ n) : R64 (emptyP n f) := by
  rw [emptyP_is]
  exact ((bareP_64 n f).freeNodes (by rw [bareP_length]; omega) 32 (by decide)).withNode 0 (by rw [freeNodes_length, bareP_length]; omega) _
theorem bareP_low {n : Nat} (f : Int) (h : 64 ≤ n) : (bareP n f).getD 0 [] = supBlock ⟨n, f, 0, 0, 0⟩ ∧ (bareP n f).getD 1 [] = headBlock ⟨0, 1⟩ ∧ (bareP n f).getD 2 [] = sealOf sumS (markP (List.replicate 60 0) true [(0, 59)]) := by
  have h1 : (withSuper (List.replicate n z64) ⟨n, f, 0, 0, 0⟩).length = n := by rw [withSuper_length, List.length_replicate]
  unfold bareP withFlags
  refine ⟨?_, ?_, ?_⟩
  · rw [gets_set, if_neg (fun e => by omega), gets_set, if_neg (fun e => by omega)]
    unfold withSuper
    rw [gets_set, if_pos ⟨rfl, by rw [List.length_replicate]; omega⟩]
  · rw [gets_set, if_neg (fun e => by omega), gets_set, if_pos ⟨rfl, by omega⟩]
  · rw [gets_set, if_pos ⟨rfl, by rw [List.length_set]; omega⟩]
theorem emptyP_low {n : Nat} (f : Int) (h : 64 ≤ n) : (emptyP n f).getD 0 [] = supBlock ⟨n, f, 0, 0, 0⟩ ∧ (emptyP n f).getD 1 [] = headBlock ⟨0, 1⟩ ∧ (emptyP n f).getD 2 [] = sealOf sumS (markP (List.replicate 60 0) true [(0, 59)]) := by
  have hj : ∀ j, j < 3 → (emptyP n f).getD j [] = (bareP n f).getD j [] := fun j hj => by
    rw [emptyP_is]
    rw [low_withNode _ _ _ _ hj, low_freeNodes _ _ _ hj]
  rw [hj 0 (by decide), hj 1 (by decide), hj 2 (by decide)]
  exact bareP_low f h
theorem half_emptyP {n : Nat} {f : Int} (h : 64 ≤ n) (hf : 1 ≤ f ∧ f ≤ 2) (k : Nat) (hk : k < 32) : halfAt (emptyP n f) k = node32 (if k = 0 then rootN f else noNode) := by
  have hl := bareP_length n f
  rw [emptyP_is, half_withNode (by rw [freeNodes_length]; omega) ((bareP_64 n f).freeNodes (by omega) 32 (by decide) _ (by rw [freeNodes_length]; omega)) (node32_len (root_ok hf).2.2), half_freeNodes (bareP_64 n f) (by omega) 32 (by decide) k, if_pos hk]
  by_cases e : k = 0
  · rw [if_pos e, if_pos e]
  · rw [if_neg e, if_neg e]
theorem sup_emptyP {n : Nat} {f : Int} (h : 64 ≤ n) (h2 : n ≤ 480) (hf : 1 ≤ f ∧ f ≤ 2) : PSup.sound ⟨(n : Int), f, 0, 0, 0⟩ = true ∧ supAt (emptyP n f) = ⟨n, f, 0, 0, 0⟩ := by
  have hs : PSup.sound ⟨(n : Int), f, 0, 0, 0⟩ = true := decide_eq_true (by dsimp only; omega)
  refine ⟨hs, ?_⟩
  unfold supAt
  rw [(emptyP_low f h).1]
  exact (getSup_block hs).1
set_option maxRecDepth 100000 in
theorem vol_emptyP {n : Nat} {f : Int} (h : 64 ≤ n) (h2 : n ≤ 480) (hf : 1 ≤ f ∧ f ≤ 2) : VolOk (emptyP n f) := by
  have hlow := emptyP_low f h
  have hs := sup_emptyP h h2 hf
  refine ⟨by rw [emptyP_length]; exact ⟨h, h2⟩, by rw [hlow.1]; exact is_sup hs.1, by rw [hs.2, emptyP_length], by rw [hlow.2.1]; exact is_head (by decide), by rw [hlow.2.2]; exact sealed_seal (by decide +kernel), fun k hk => ?_⟩
  rw [half_emptyP h hf k hk]
  split
  · exact (node_back (root_ok hf).1 (root_ok hf).2.1).1
  · exact (node_back noNode_ok.1 noNode_ok.2.1).1
set_option maxRecDepth 100000 in
theorem flags_emptyP {n : Nat} (f : Int) (h : 64 ≤ n) : flagsAt (emptyP n f) = markP (List.replicate 60 0) true [(0, 59)] := by
  unfold flagsAt
  rw [(emptyP_low f h).2.2]
  exact seal_take (by decide +kernel)
end Go.Proofs.YtmcblhgpcgnaoaaGreatDoor

