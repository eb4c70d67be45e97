/-
  Proved here: what the landed image's Make answers. The conditions stand at each theorem. Proved here: a slice of slices of bytes that came in, opened; that it stays while only new memory is made. The conditions stand at each theorem. Proved here: what the landed image's arrays answers of any list of texts. The conditions stand at each theorem. Proved here: what the landed image's sound answers of any blocks. The conditions stand at each theorem. Proved here: what the landed image's Open answers of any blocks. The conditions stand at each theorem. Proved here: what the document's own Parts of runs (drydockref01: part, Of; drydockref02: Parts) and tests of blocks (drydockref09: Data, all) answer of small numbers. The conditions stand at each theorem.
-/
import Derived.Test.YtmcblhgpcgnaoaaGreatDoorNc8
import Derived.Test.YtmcblhgpcgnaoaaGreatDoorNc0
import Derived.Deep.Matrix
import Derived.Great.BuildSlice
import Derived.Test.YtmcblhgpcgnaoaaGreatDoorNc10
import Derived.Test.YtmcblhgpcgnaoaaGreatDoorNc9
import Derived.Test.YtmcblhgpcgnaoaaGreatDoorNc12
import Derived.Test.YtmcblhgpcgnaoaaGreatDoorNc4
import Derived.Laws.ResultCell
import Derived.Deep.QuietTactic
import Derived.BigQuiet
import Derived.WalkSmall
namespace Go.Proofs.YtmcblhgpcgnaoaaGreatDoor
open Go.RowKit
set_option linter.unusedVariables false
set_option linter.unusedSimpArgs false

def z64 : List Int := List.replicate 64 0
def rootN (f : Int) : PNode := { noNode with k := 2, f := f, l := 1 }
/-- All nodes ahead of n are Free. -/
def freeNodes (B : List (List Int)) : Nat → List (List Int)
  | 0 => B
  | n + 1 => withNode (freeNodes B n) n noNode
/-- An empty volume's blocks. -/
def emptyP (size : Nat) (f : Int) : List (List Int) :=
  withNode (freeNodes (withFlags ((withSuper (List.replicate size z64) ⟨size, f, 0, 0, 0⟩).set 1 (headBlock ⟨0, 1⟩)) (markP (List.replicate 60 0) true [(0, 59)])) 32) 0 (rootN f)

theorem withNode_length (B : List (List Int)) (n : Nat) (x : PNode) : (withNode B n x).length = B.length := by unfold withNode; rw [List.length_set]
theorem freeNodes_length (B : List (List Int)) (n : Nat) : (freeNodes B n).length = B.length := by
  induction n with
  | zero => rfl
  | succ n ih => show (withNode (freeNodes B n) n noNode).length = _; rw [withNode_length, ih]
theorem withFlags_length (B : List (List Int)) (f : List Int) : (withFlags B f).length = B.length := by unfold withFlags; rw [List.length_set]
theorem withSuper_length (B : List (List Int)) (s : PSup) : (withSuper B s).length = B.length := by unfold withSuper; rw [List.length_set]
theorem emptyP_length (size : Nat) (f : Int) : (emptyP size f).length = size := by
  unfold emptyP
  rw [withNode_length, freeNodes_length, withFlags_length, List.length_set, withSuper_length, List.length_replicate]

theorem infoB : (Tryz.prog.info? 102).map (fun i => (i.zero, i.size, i.bytes)) = some (some (.agg zeroB), 64, 64) := by kernel_rfl
theorem run_make_blks (w : World) (n : Nat) (hn : n ≤ 480) : (Instr.makeSlice 81 (.int .i64 (n : Int)) (.int .i64 (n : Int))).run Tryz.prog w =
    .ok (.slice (some ⟨w.heap.size, 0, none⟩) n n) (w.alloc (.cells (madeCells zeroB (n * 64)) 102)) := by
  obtain ⟨i0, hi, hz0, hz1, hz2⟩ := info_parts infoB
  have h := run_make (P := Tryz.prog) w 81 102 i0 (.agg zeroB) Tryz.underlying81 hi hz0 .i64 .i64 (n : Int) (n : Int) (by omega) (Int.le_refl _) (by rw [hz2]; omega) (by omega)
  rw [hz1] at h
  simpa [Value.cells] using h

theorem repl0 (n r : Nat) : (List.replicate n (0 : Int)).getD r 0 = 0 := by
  rw [List.getD_eq_getElem?_getD, List.getElem?_replicate]
  split <;> rfl
theorem zeros_all (n : Nat) : All64 (List.replicate n z64) := fun c hc => by
  rw [List.eq_of_mem_replicate hc]
  exact ⟨by unfold z64; simp, fun z hz => by unfold z64 at hz; rw [List.eq_of_mem_replicate hz]; decide⟩
theorem made_rw (w : World) (n : Nat) : Rw (w.alloc (.cells (madeCells zeroB (n * 64)) 102)) w.heap.size (List.replicate n z64) := by
  have h64 : zeroB.size = 64 := by decide
  refine ⟨zeros_all n, fun j hj => ?_, fun j => by rw [World.frozen?_alloc_mark]; simp⟩
  rw [flatten_len (zeros_all n), List.length_replicate] at hj
  rw [World.cell?_alloc_new]
  obtain ⟨q, r, h6, rfl⟩ : ∃ q r, r < 64 ∧ j = q * 64 + r := ⟨j / 64, j % 64, by omega, by omega⟩
  rw [flatten_at (zeros_all n) q r h6]
  have e1 : (List.replicate n z64).getD q [] = z64 := by simp [List.getD, List.getElem?_replicate, show q < n by omega]
  have e2 : z64.getD r 0 = 0 := repl0 64 r
  have e : (q * 64 + r) % 64 = r := by omega
  rw [e1, e2]
  unfold madeCells
  rw [Array.getElem?_map, Array.getElem?_range, if_pos hj]
  simp only [Option.map_some, h64, e]
  rw [getElem!_pos zeroB r (by rw [h64]; exact h6)]
  have h3 : zeroB[r]? = some (.int .u8 0) := by
    unfold zeroB
    rw [List.getElem?_toArray, bys_at (by rw [List.length_replicate]; exact h6), repl0]
  rw [Array.getElem?_eq_getElem (by rw [h64]; exact h6)] at h3
  exact h3

/-- The state that Make fills. -/
def StI (base : Nat) (w0 : World) (p g n : Nat) (L : List (List Int)) (W : World) : Prop :=
  W.cell? ⟨p, 0, none⟩ = some (.slice (some ⟨g, 0, none⟩) n n) ∧ Rw W g L ∧ L.length = n ∧ p ≠ g ∧ base ≤ g ∧ Below base w0 W
theorem StI.step {base : Nat} {w0 W W' : World} {p g n : Nat} {L L' : List (List Int)} (h : StI base w0 p g n L W) (hb : base ≤ W.heap.size) (hR : Rw W' g L') (hl : L'.length = L.length) (hG : Grew (fun k => k = g) (fun k => k = g) W W') : StI base w0 p g n L' W' := by
  obtain ⟨h1, h2, h3, h4, h5, h6⟩ := h
  refine ⟨?_, hR, by rw [hl, h3], h4, h5, hG.below h6 hb (fun k e => by omega)⟩
  rw [cell_of_heap (p := ⟨p, 0, none⟩) (hG.block (World.block_lt_of_cell? _ _ h1) h4)]
  exact h1
theorem StI.later {base : Nat} {w0 W W' : World} {p g n : Nat} {L : List (List Int)} (h : StI base w0 p g n L W) (h0 : 0 < n) (hb : Below W.heap.size W W') (hs : base ≤ W.heap.size) : StI base w0 p g n L W' := by
  obtain ⟨h1, h2, h3, h4, h5, h6⟩ := h
  exact ⟨cell_later hb h1, h2.later (by omega) hb, h3, h4, h5, h6.trans (hb.mono hs)⟩

def Byt (l : List Int) : Prop := ∀ z ∈ l, 0 ≤ z ∧ z ≤ 255
theorem Byt.append {a b : List Int} (h : Byt a) (k : Byt b) : Byt (a ++ b) := fun z hz => by
  rcases List.mem_append.1 hz with hz | hz
  · exact h z hz
  · exact k z hz
theorem byt_le (n : Int) (k : Nat) : Byt (leB n k) := leB_bytes n k
theorem Byt.pad {k : Nat} {l : List Int} (h : Byt l) : Byt (pad k l) := h.append (fun z hz => by rw [List.eq_of_mem_replicate hz]; decide)
theorem byt_ex (l : List PX) : Byt (exB l) := fun z hz => by
  unfold exB at hz
  obtain ⟨x, _, hz⟩ := List.mem_flatMap.1 hz
  exact (((byt_le _ _).append (byt_le _ _)).append (byt_le _ _)) z hz
theorem node32_byt (n : PNode) : Byt (node32 n) := by
  have h1 : Byt (nodeH n) := (((((byt_le _ _).append (byt_le _ _)).append (byt_le _ _))).append (byt_le _ _))
  have h2 : Byt (nodeP n) := ((((((byt_le _ _).append (byt_le _ _)).append (byt_le _ _))).append (byt_le _ _)).append (byt_le _ _)).append (byt_le _ _)
  unfold node32
  refine Byt.append ?_ (byt_le _ _)
  unfold node28
  refine Byt.pad ?_
  split
  · exact ((h1.append (byt_ex _)).pad).append (byt_le _ _)
  · exact h1.append h2
theorem node32_len {n : PNode} (h : n.x.length ≤ 3) : (node32 n).length = 32 := node32_length n (node28_length h)

theorem noNode_ok : noNode.sound = true ∧ noNode.small ∧ noNode.x.length ≤ 3 := ⟨by decide, by unfold PNode.small noNode u16; simp, by decide⟩
theorem root_ok {f : Int} (h : 1 ≤ f ∧ f ≤ 2) : (rootN f).sound = true ∧ (rootN f).small ∧ (rootN f).x.length ≤ 3 := by
  obtain rfl | rfl : f = 1 ∨ f = 2 := by omega
  · exact ⟨by decide, by unfold PNode.small rootN noNode u16; simp, by decide⟩
  · exact ⟨by decide, by unfold PNode.small rootN noNode u16; simp, by decide⟩

theorem sti_super {base : Nat} {w0 W : World} {p g n : Nat} {L : List (List Int)} (s : PSup) (hs : s.sound = true) (h : StI base w0 p g n L W) (hb : base ≤ W.heap.size) (h0 : 0 < n) :
    Calls Tryz.prog 40 #[.pointer (some ⟨p, 0, none⟩), s.val] W fun e w' => e = .returned (.tuple #[]) ∧ StI base w0 p g n (withSuper L s) w' :=
  (setSuper_any s hs h.1 h.2.1 h.2.2.1 h0).mono fun e w' ⟨he, hR, hG⟩ => ⟨he, h.step hb hR (withSuper_length _ _) hG⟩
theorem sti_put {base : Nat} {w0 W : World} {p g n i c2 : Nat} {L : List (List Int)} {ao : Option Addr} {zs : List Int} (h : StI base w0 p g n L W) (hb : base ≤ W.heap.size) (hi : i < n) (hA : Arg W ao 64 c2 zs) :
    Calls Tryz.prog 41 #[.pointer (some ⟨p, 0, none⟩), .int .i64 i, .slice ao 64 c2] W fun e w' => e = .returned (.tuple #[]) ∧ StI base w0 p g n (L.set i zs) w' :=
  (put_any h.1 h.2.1 h.2.2.1 hi hA).mono fun e w' ⟨he, hR, hG⟩ => ⟨he, h.step hb hR (List.length_set ..) hG⟩
theorem sti_flags {base : Nat} {w0 W : World} {p g n c2 : Nat} {L : List (List Int)} {ao : Option Addr} {f : List Int} (h : StI base w0 p g n L W) (hb : base ≤ W.heap.size) (hi : 2 < n) (hA : Arg W ao 60 c2 f) :
    Calls Tryz.prog 44 #[.pointer (some ⟨p, 0, none⟩), .slice ao 60 c2] W fun e w' => e = .returned (.tuple #[]) ∧ StI base w0 p g n (withFlags L f) w' :=
  (setFlags_any h.1 h.2.1 h.2.2.1 hi hA).mono fun e w' ⟨he, hR, hG⟩ => ⟨he, h.step hb hR (withFlags_length _ _) hG⟩
theorem sti_node {base : Nat} {w0 W : World} {p g n : Nat} {L : List (List Int)} (k : Nat) (x : PNode) {xo : Option Addr} {m xc : Nat} (hs : x.sound = true ∧ x.small ∧ x.x.length ≤ 3) (hX : XIs W xo m x.x) (hcap : m ≤ xc ∧ xc ≤ 9223372036854775807) (h : StI base w0 p g n L W) (hb : base ≤ W.heap.size) (hi : 18 < n) (hk : k < 32) :
    Calls Tryz.prog 49 #[.pointer (some ⟨p, 0, none⟩), .int .i64 k, x.val (.slice xo m xc)] W fun e w' => e = .returned (.tuple #[]) ∧ StI base w0 p g n (withNode L k x) w' :=
  (setNode_any k x hs.1 hs.2.1 hX hcap ⟨node32_len hs.2.2, node32_byt x⟩ h.1 h.2.1 h.2.2.1 hi hk).mono fun e w' ⟨he, hR, hG⟩ => ⟨he, h.step hb hR (withNode_length _ _ _) hG⟩
theorem StI.size {base : Nat} {w0 W : World} {p g n : Nat} {L : List (List Int)} (h : StI base w0 p g n L W) : w0.heap.size ≤ W.heap.size := h.2.2.2.2.2.size

set_option maxRecDepth 100000 in
set_option maxHeartbeats 3200000 in
theorem makes_ok (n : Nat) (f : Int) (w : World) (h0 : 64 ≤ n) (h1 : n ≤ 480) (hf : 1 ≤ f ∧ f ≤ 2) :
    Calls Tryz.prog 11 #[.int .i64 n, .int .i64 f] w fun e w' => ∃ a F', e = .returned (.tuple #[.pointer (some a), .int .i64 0]) ∧ ImgI w' a F' ⟨emptyP n f, emptyP n f, emptyP n f⟩ ∧ (∀ k, F' k → w.heap.size ≤ k) ∧ Below w.heap.size w w' := by
  have c1 := iwithin_any n 64 480 w
  have c2 := iwithin_any f 1 2 w
  rw [show inI n 64 480 = true from decide_eq_true (by omega)] at c1
  rw [show inI f 1 2 = true from decide_eq_true hf] at c2
  have hmk := run_make_blks w n h1
  have HS : Hid (PSup.sound ⟨(n : Int), f, 0, 0, 0⟩ = true) := Lib.hid (decide_eq_true (by dsimp only; omega))
  have HF := Lib.hid hf
  have HRW := Lib.hid (made_rw w n)
  have HB1 : Hid (Below w.heap.size w (w.alloc (.cells (madeCells zeroB (n * 64)) 102))) := Lib.hid ((Below.refl _ _).alloc (Nat.le_refl _) _)
  have HSZ : Hid ((w.alloc (.cells (madeCells zeroB (n * 64)) 102)).heap.size = w.heap.size + 1) := Lib.hid (by simp)
  generalize hw1 : w.alloc (.cells (madeCells zeroB (n * 64)) 102) = w1 at *
  clear hw1
  have HST : Hid (StI w.heap.size w w1.heap.size w.heap.size n (List.replicate n z64) (w1.alloc (.cells #[.slice (some ⟨w.heap.size, 0, none⟩) n n, .slice none 0 0] 83))) := Lib.hid
    ⟨by simp, HRW.out.later (by simp; omega) ((Below.refl _ _).alloc (Nat.le_refl _) _), by simp, by have := HSZ.out; omega, Nat.le_refl _, HB1.out.alloc (by have := HSZ.out; omega) _⟩
  generalize hp : w1.heap.size = p at *
  have HHD : Hid (∀ W, Calls Tryz.prog 43 #[.agg #[.int .i64 0, .int .i64 1]] W (Handed W.heap.size W (headBlock ⟨0, 1⟩) 0)) := Lib.hid (fun W => by
    have h := sput_any ⟨0, 1⟩ W (by unfold PHead.in64 i64w; simp)
    unfold headOut headErr at h
    rw [show PHead.sound ⟨0, 1⟩ = true from by decide, if_pos rfl, if_pos rfl] at h
    exact h)
  have HH64 : Hid ((headBlock ⟨0, 1⟩).length = 64) := Lib.hid (sealAny_length _ _)
  have HH0 : Hid (headBlock ⟨0, 1⟩ ≠ []) := Lib.hid (fun h => by have := sealAny_length sumS (headB ⟨0, 1⟩); rw [show sealOf sumS (headB ⟨0, 1⟩) = [] from h] at this; cases this)
  have HM0 : Hid (markP (List.replicate 60 0) true [(0, 59)] ≠ []) := Lib.hid (fun h => by have := markP_length (List.replicate 60 0) true [(0, 59)]; rw [h] at this; cases this)
  have HMK : Hid (∀ (W : World) (g o k : Nat), Arg W (some ⟨g, o, none⟩) 60 k (List.replicate 60 0) → Calls Tryz.prog 45 #[.slice (some ⟨g, o, none⟩) 60 k, .bool true, .slice (some ⟨W.heap.size, 0, none⟩) 1 1] (W.alloc (.cells #[.complex .f64 (floatOfInt .f64 0) (floatOfInt .f64 59)] 93)) (Handed (W.alloc (.cells #[.complex .f64 (floatOfInt .f64 0) (floatOfInt .f64 59)] 93)).heap.size (W.alloc (.cells #[.complex .f64 (floatOfInt .f64 0) (floatOfInt .f64 59)] 93)) (markP (List.replicate 60 0) true [(0, 59)]) 0)) := Lib.hid (fun W g o k hA =>
    markAll_any (some ⟨g, o, none⟩) k _ true (some ⟨W.heap.size, 0, none⟩) 1 1 [.complex .f64 (floatOfInt .f64 0) (floatOfInt .f64 59)] [(0, 59)] _ (hA.later ((Below.refl _ _).alloc (Nat.le_refl _) _)) ⟨rfl, by decide, Or.inr ⟨W.heap.size, 0, rfl, fun j v hj => by
      match j, hj with
      | 0, hj => cases Option.some.inj hj; simp
      | j + 1, hj => simp at hj⟩⟩ ⟨rfl, fun j v q hj hq => by
      match j, hj, hq with
      | 0, hj, hq => cases Option.some.inj hj; cases Option.some.inj hq; exact ⟨_, _, rfl, fi_ofInt _ (by decide), fi_ofInt _ (by decide)⟩
      | j + 1, hj, hq => simp at hj⟩ (fun r hr => by rw [List.mem_singleton.1 hr]; decide) (by decide))
  go_enter Tryz.func11, Tryz.ntmps11
  go_wp2_with (first
    | (go_at_call 39; first | ((with_reducible refine c1.mono ?_); rintro e w' ⟨rfl, rfl⟩) | ((with_reducible refine c2.mono ?_); rintro e w' ⟨rfl, rfl⟩))
    | (go_at_call 40; refine (sti_super ⟨(n : Int), f, 0, 0, 0⟩ HS.out HST.out HST.out.size (by omega)).mono ?_; rintro e w2 ⟨rfl, hst⟩; have HST2 := Lib.hid hst; clear hst)
    | (go_at_call 43; refine (HHD.out w2).mono ?_; rintro e w3 ⟨v3, rfl, hf3, hb3⟩; obtain ⟨g3, o3, k3, rfl, hA3, _⟩ := fresh_slice hf3 HH0.out; rw [HH64.out] at hA3 ⊢; have HA3 := Lib.hid hA3; have HST3 := Lib.hid (HST2.out.later (by omega) hb3 HST2.out.size); clear hf3 hb3 hA3)
    | (go_at_call 42; refine (mustB_any _ _).mono ?_; rintro e w' ⟨rfl, rfl⟩)
    | (go_at_call 41; refine (sti_put (i := 1) HST3.out HST3.out.size (by omega) HA3.out).mono ?_; rintro e w4 ⟨rfl, hst⟩; have HST4 := Lib.hid hst; clear hst)
    | (go_at_call 46; refine (xNew_any w4).mono ?_; rintro e w5 ⟨v5, rfl, hf5, hb5⟩; obtain ⟨g5, o5, k5, rfl, hA5, _⟩ := fresh_slice hf5 (by simp); rw [List.length_replicate] at hA5 ⊢; have HA5 := Lib.hid hA5; have HST5 := Lib.hid (HST4.out.later (by omega) hb5 HST4.out.size); clear hf5 hb5 hA5)
    | (go_at_call 48; refine (OfF_any 0 59 w5 (by decide) (by decide)).mono ?_; rintro e w' ⟨rfl, rfl⟩)
    | (go_at_call 47; refine (mustC_any _ _).mono ?_; rintro e w' ⟨rfl, rfl⟩)
    | (go_at_call 45; refine (HMK.out w5 _ _ _ HA5.out).mono ?_; rintro e w6 ⟨v6, rfl, hf6, hb6⟩; obtain ⟨g6, o6, k6, rfl, hA6, _⟩ := fresh_slice hf6 HM0.out; rw [markP_length] at hA6 ⊢; have HA6 := Lib.hid hA6; have HST6 := Lib.hid (HST5.out.later (by omega) (((Below.refl w5.heap.size w5).alloc (Nat.le_refl _) _).trans (hb6.mono (by simp))) HST5.out.size); clear hf6 hb6 hA6)
    | (go_at_call 44; refine (sti_flags HST6.out HST6.out.size (by omega) HA6.out).mono ?_; rintro e w7 ⟨rfl, hst⟩; have HST7 := Lib.hid hst; clear hst))
  obtain ⟨L3, hL3⟩ : ∃ L3, withFlags ((withSuper (List.replicate n z64) ⟨(n : Int), f, 0, 0, 0⟩).set 1 (headBlock ⟨0, 1⟩)) (markP (List.replicate 60 0) true [(0, 59)]) = L3 := ⟨_, rfl⟩
  rw [hL3] at HST7
  have HE : Hid (emptyP n f = withNode (freeNodes L3 32) 0 (rootN f)) := Lib.hid (by unfold emptyP; rw [hL3])
  clear hL3 HST HST2 HST3 HST4 HST5 HST6 HA3 HA5 HA6 HMK HHD HH64 HH0 HM0 c1 c2 hmk HRW HB1
  have HJ0 : Hid (StI w.heap.size w p w.heap.size n (freeNodes L3 0) w7) := HST7
  go_loopw [40] (fun kv wr => ∃ i : Nat, i ≤ 32 ∧ kv = .int .i64 i ∧ Hid (StI w.heap.size w p w.heap.size n (freeNodes L3 i) wr)) (fun kv _ => 32 - (intOf kv).toNat)
  case atStart => exact ⟨0, Nat.zero_le _, rfl, HJ0⟩
  case round =>
    obtain ⟨i, hi, rfl, HJ⟩ := hrel
    by_cases hlt : i < 32
    · have i2 : (i : Int) < 32 := by omega
      have cN := sti_node (n := n) i noNode noNode_ok (xc := 0) (XIs.nil wr) ⟨Nat.le_refl _, by decide⟩ HJ.out HJ.out.size (by omega) hlt
      clear HJ HJ0 HST7
      go_wp2_with (go_at_call 49; refine cN.mono ?_; rintro e w8 ⟨rfl, hst⟩; have HJ8 : Hid (StI w.heap.size w p w.heap.size n (freeNodes L3 (i + 1)) w8) := Lib.hid hst; clear hst)
      go_roundw
      case rel => exact ⟨i + 1, by omega, by go_num, HJ8⟩
      case measure => simp [intOf]; omega
    · have hit : i = 32 := by omega
      subst hit
      have cN := sti_node (n := n) 0 (rootN f) (root_ok HF.out) (xc := 0) (XIs.nil wr) ⟨Nat.le_refl _, by decide⟩ HJ.out HJ.out.size (by omega) (by decide)
      clear HJ HJ0 HST7
      go_wp2_with (go_at_call 49; refine cN.mono ?_; rintro e w8 ⟨rfl, hst⟩; have q0 := hst.1; have HJ8 := Lib.hid hst; clear hst)
      refine (iof_any HJ8.out.2.1 HJ8.out.2.2.1 (by omega) h1 (Nat.le_refl _)).mono ?_
      rintro e w9 ⟨a, F', rfl, hI, hF, hb⟩
      have H9 := Lib.hid (And.intro hI (And.intro hF hb))
      clear hI hF hb q0
      go_wp2_with fail
      go_ret2
      have hb8 := HJ8.out.2.2.2.2.2
      refine ⟨a, F', rfl, by rw [HE.out]; exact H9.out.1, fun k hk => ?_, hb8.trans (H9.out.2.2.mono hb8.size)⟩
      have := hb8.size
      rcases H9.out.2.1 k hk with e | e <;> omega
end Go.Proofs.YtmcblhgpcgnaoaaGreatDoor


namespace Go.Proofs.YtmcblhgpcgnaoaaGreatDoor
open Go.RowKit Go.ChangeShapes Go.WideShapes

/-- A slice of slices of bytes: row j's elements are the j-th of Z. -/
def RowsIn (w : World) (a : Option Addr) (len cap : Nat) (Z : List (List Int)) : Prop :=
  Z.length = len ∧ len ≤ cap ∧ (len = 0 ∨ ∃ b off, a = some ⟨b, off, none⟩ ∧ ∀ j, j < len → ∃ ad l c, w.cell? ⟨b, off + j, none⟩ = some (.slice ad l c) ∧ Bts w ad l (Z.getD j []) ∧ l ≤ c)

theorem RowsIn.later {w wx : World} {a : Option Addr} {len cap : Nat} {Z : List (List Int)} (h : RowsIn w a len cap Z) (hb : Below w.heap.size w wx) : RowsIn wx a len cap Z := by
  obtain ⟨h1, h2, h3⟩ := h
  refine ⟨h1, h2, ?_⟩
  rcases h3 with h3 | ⟨b, off, rfl, hc⟩
  · exact Or.inl h3
  · refine Or.inr ⟨b, off, rfl, fun j hj => ?_⟩
    obtain ⟨ad, l, c, h4, h5, h6⟩ := hc j hj
    exact ⟨ad, l, c, cell_later hb h4, h5.later hb, h6⟩

theorem RowsIn.at {w : World} {a : Option Addr} {len cap i : Nat} {Z : List (List Int)} (h : RowsIn w a len cap Z) (hi : i < len) : ∃ b off ad l c, a = some ⟨b, off, none⟩ ∧ w.cell? ⟨b, off + i, none⟩ = some (.slice ad l c) ∧ Bts w ad l (Z.getD i []) := by
  obtain ⟨h1, h2, h3⟩ := h
  obtain ⟨b, off, rfl, hc⟩ := h3.resolve_left (by omega)
  obtain ⟨ad, l, c, h4, h5, _⟩ := hc i hi
  exact ⟨b, off, ad, l, c, rfl, h4, h5⟩

/-- A row of 64 bytes, as a call is handed it. -/
theorem RowsIn.full {w : World} {a : Option Addr} {len cap i : Nat} {Z : List (List Int)} (h : RowsIn w a len cap Z) (hi : i < len) (h64 : (Z.getD i []).length = 64) : ∃ b off ad c, a = some ⟨b, off, none⟩ ∧ w.cell? ⟨b, off + i, none⟩ = some (.slice (some ad) (64 : Nat) c) ∧ Arg w (some ad) 64 c (Z.getD i []) := by
  obtain ⟨h1, h2, h3⟩ := h
  obtain ⟨b, off, rfl, hc⟩ := h3.resolve_left (by omega)
  obtain ⟨ad, l, c, h4, h5, h6⟩ := hc i hi
  have hl : l = 64 := by rw [← h5.1, h64]
  subst hl
  obtain ⟨b', o', rfl, _⟩ := h5.2.2.2.resolve_left (by decide)
  exact ⟨b, off, _, c, rfl, h4, h5, (fun e => by cases e), h6, by decide⟩

end Go.Proofs.YtmcblhgpcgnaoaaGreatDoor


namespace Go.Proofs.YtmcblhgpcgnaoaaGreatDoor
open Go.RowKit
set_option linter.unusedVariables false
set_option linter.unusedSimpArgs false

/-- Do all have 64 bytes? -/
def len64 (B : List (List Int)) : Bool := B.all fun c => decide (c.length = 64)
theorem len64_iff {B : List (List Int)} : len64 B = true ↔ ∀ j, j < B.length → (B.getD j []).length = 64 := by
  unfold len64
  rw [List.all_eq_true]
  refine ⟨fun h j hj => ?_, fun h c hc => ?_⟩
  · rw [List.getD_eq_getElem?_getD, List.getElem?_eq_getElem hj]
    exact of_decide_eq_true (h _ (List.getElem_mem hj))
  · obtain ⟨j, hj, rfl⟩ := List.getElem_of_mem hc
    have := h j hj
    rw [List.getD_eq_getElem?_getD, List.getElem?_eq_getElem hj] at this
    exact decide_eq_true this
theorem len64_false {B : List (List Int)} {j : Nat} (hj : j < B.length) (h : (B.getD j []).length ≠ 64) : len64 B = false := by
  cases hb : len64 B with
  | false => rfl
  | true => exact absurd (len64_iff.1 hb j hj) h

theorem fillB {c : List Int} (hc : c.length = 64) (cells : Array Value) (h : cells.size = 64) : Instr.fill (fun i => some (i * 64, 64)) cells [(0, Value.agg (bys c).toArray)] = some (bys c).toArray := by
  have h64 : (bys c).length = 64 := by rw [bys_length, hc]
  have h1 := Great.fill_whole (s := 64) (by decide) [Value.agg (bys c).toArray] cells (fun v hv => by
    rw [List.mem_singleton.1 hv]
    show (bys c).toArray.size = 64
    simp [h64]) (by rw [h]; rfl)
  have e : ([Value.agg (bys c).toArray].flatMap fun v => v.cells.toList) = bys c := by simp [Value.cells]
  rw [e] at h1
  exact h1

section
variable {ops : Array Oper} {rest : List Oper} {o : Oper} {a : Act} {w : World} {Q : Exit → Act → World → Prop}
/-- '[]block{x}'. -/
theorem wp_build_blk (hg : o.guard = none) (x : Operand) (ho : o.op = .buildSlice 81 1 #[(0, x)]) (c : List Int) (hx : a.eval x = .agg (bys c).toArray) (hc : c.length = 64) (dst : Option Tmp) (hd : o.dst = dst)
    (h : ∀ n1 w1, n1 = w.heap.size → w1 = w.alloc (.cells (bys c).toArray 102) → wpList Tryz.prog ops Q rest (a.put dst (.slice (some ⟨n1, 0, none⟩) 1 1)) w1) : wpList Tryz.prog ops Q (o :: rest) a w := by
  subst hd
  obtain ⟨i0, hi, hz0, hz1, hz2⟩ := info_parts infoB
  refine wpList_buildSlice hg _ 102 1 _ ho (bys c).toArray i0 (.agg zeroB) Tryz.underlying81 hi hz0 (by rw [hz1]; decide) (by rw [hz1]; decide) ?_ (h _ _ rfl rfl)
  rw [hz1]
  have e : (#[((0 : Nat), x)].map fun (i, x) => (i, a.eval x)).toList = [(0, Value.agg (bys c).toArray)] := by simp [hx]
  rw [e]
  exact fillB hc _ (by simp)
end

/-- What arrays hands back. -/
def ArraysDone (w : World) (B : List (List Int)) (e : Ending) (w' : World) : Prop :=
  ((len64 B = true ∧ ∃ ao cap, e = .returned (.tuple #[.slice ao B.length cap, .bool true]) ∧ w'.ownsRow w.heap.size 102 64 (.slice ao B.length cap) B.length (flat B) ∧ All64 B) ∨
    (len64 B = false ∧ e = .returned (.tuple #[.slice none 0 0, .bool false]))) ∧ Below w.heap.size w w'

theorem RowsIn.bytes {w : World} {a : Option Addr} {len cap i : Nat} {Z : List (List Int)} (h : RowsIn w a len cap Z) (hi : i < len) : ∀ z ∈ Z.getD i [], 0 ≤ z ∧ z ≤ 255 := by
  obtain ⟨_, _, _, _, _, _, _, hb⟩ := h.at hi
  exact hb.2.2.1

set_option maxRecDepth 100000 in
set_option maxHeartbeats 3200000 in
theorem arrays_any {ao : Option Addr} {m c : Nat} {B : List (List Int)} (w : World) (hX : RowsIn w ao m c B) (hm : ∀ i, i ≤ m → (∀ j, j < i → (B.getD j []).length = 64) → i ≤ 99999) (hm2 : m ≤ 140737488351232) :
    Calls Tryz.prog 62 #[.slice ao m c] w (ArraysDone w B) := by
  have HX := Lib.hid hX
  have HM := Lib.hid hm
  have HL : Hid (B.length = m) := Lib.hid hX.1
  clear hX hm
  go_enter Tryz.func62, Tryz.ntmps62
  go_wp2_with fail
  have HJ0 : Hid (w.ownsRow w.heap.size 102 64 (.slice none 0 0) 0 (flat (B.take 0)) ∧ Below w.heap.size w w ∧ ∀ j, j < 0 → (B.getD j []).length = 64) := Lib.hid ⟨owns_nil_r _ _ _ _, Below.refl _ _, fun j hj => absurd hj (by omega)⟩
  go_loopw [4, 9] (fun vv iv wr => ∃ i : Nat, i ≤ m ∧ iv = .int .i64 i ∧ Hid (wr.ownsRow w.heap.size 102 64 vv i (flat (B.take i)) ∧ Below w.heap.size w wr ∧ ∀ j, j < i → (B.getD j []).length = 64)) (fun _ iv _ => m - (intOf iv).toNat)
  case atStart => exact ⟨0, Nat.zero_le _, rfl, HJ0⟩
  case round =>
    obtain ⟨i, hi, rfl, HJ⟩ := hrel
    clear HJ0
    obtain ⟨va, vc, rfl⟩ := owns_shape_r HJ.out.1
    by_cases hlt : i < m
    · have i2 : (i : Int) < m := by omega
      by_cases h64 : (B.getD i []).length = 64
      · obtain ⟨b1, o1, ad, c1, rfl, d1, q1⟩ := (HX.out.later HJ.out.2.1).full hlt h64
        obtain ⟨⟨b, off, sp⟩, hsp⟩ : ∃ x : Addr, ad = x := ⟨ad, rfl⟩
        obtain rfl : sp = none := by
          rcases q1.1.2.2.2 with h0 | ⟨b', o', e, _⟩
          · omega
          · rw [hsp] at e; cases e; rfl
        subst hsp
        obtain ⟨R, hR⟩ : ∃ R, B.getD i [] = R := ⟨_, rfl⟩
        rw [hR] at q1 h64
        have HA := Lib.hid (arg_range q1)
        have HZ := Lib.hid (And.intro h64 q1.1.2.2.1)
        have HRW := Lib.hid hR
        have hcv := to_array b off c1
        have hi9 : i + 1 ≤ 99999 := HM.out (i + 1) (by omega) (fun j hj => by
          by_cases e : j = i
          · rw [e, hR, h64]
          · exact HJ.out.2.2 j (by omega))
        have HI9 := Lib.hid hi9
        clear q1 h64 hR hi9
        go_wp2_with (first
          | (refine wpList_load_mid rfl 102 (.tmp 18) rfl b off rfl (bys R) _ HA.out ublk rfl (iblk HZ.out.1) ?_)
          | (refine wp_build_blk rfl (.tmp 19) rfl R rfl HZ.out.1 (some 20) rfl ?_; intro n1 x1 hn1 hx1; have HN1 := Lib.hid (And.intro hn1 hx1); have HB1 : Hid (Below wr.heap.size wr x1) := Lib.hid (by rw [hx1]; exact (Below.refl _ _).alloc (Nat.le_refl _) _); clear hn1 hx1)
          | (at_builtin; refine wp_append_at elemBlk rfl (.tmp 16) (.tmp 20) rfl w.heap.size i (.slice va i vc) (flat (B.take i)) rfl ?hown ⟨n1, 0, none⟩ 1 1 (bys R) ?hl ?hm rfl ?hx ?hone ?hbb ?hbase ?hkk; (case hown => exact owns_later_r HJ.out.1 HB1.out); (case hl => rw [bys_length, HZ.out.1]); (case hm => decide); (case hx => (rw [HN1.out.1, HN1.out.2]; exact news_r wr (bys R) _)); (case hone => exact bys_one R); (case hbb => (have := HI9.out; omega)); (case hbase => (have := HJ.out.2.1.size; have := HB1.out.size; omega)); intro v8 w8 hown8 hg8 hb8 hv8; have HO8 := Lib.hid hown8; have HB8 := Lib.hid ((HJ.out.2.1.trans (HB1.out.mono HJ.out.2.1.size)).trans hb8); clear hown8 hg8 hb8 hv8))
        have hiB : i < B.length := by rw [HL.out]; exact hlt
        have ht : B.take (i + 1) = B.take i ++ [R] := by
          rw [List.take_add_one, ← HRW.out, List.getD_eq_getElem?_getD, List.getElem?_eq_getElem hiB]
          rfl
        refine ⟨⟨i + 1, by omega, by go_num, Lib.hid ⟨by rw [ht, flat_snoc]; exact HO8.out, HB8.out, fun j hj => ?_⟩⟩, by simp [intOf]; omega⟩
        by_cases e : j = i
        · rw [e, HRW.out, HZ.out.1]
        · exact HJ.out.2.2 j (by omega)
      · obtain ⟨b1, o1, ad, l1, c1, rfl, d1, q1⟩ := (HX.out.later HJ.out.2.1).at hlt
        have hne : ((l1 : Int) != 64) = true := by
          have := q1.1
          simp
          omega
        have HF := Lib.hid (len64_false (by rw [HL.out]; exact hlt) h64)
        have HB := Lib.hid HJ.out.2.1
        clear q1 h64 HJ
        go_wp2_with fail
        go_ret2
        exact ⟨Or.inr ⟨HF.out, rfl⟩, HB.out⟩
    · have hit : i = m := by omega
      subst hit
      have HT : Hid (B.take i = B ∧ len64 B = true) := Lib.hid ⟨List.take_of_length_le (by rw [HL.out]; exact Nat.le_refl _), len64_iff.2 (fun j hj => HJ.out.2.2 j (by rw [HL.out] at hj; exact hj))⟩
      have ho := HJ.out.1
      rw [HT.out.1] at ho
      have HO := Lib.hid ho
      have HB := Lib.hid HJ.out.2.1
      have hall : All64 B := fun x hx => by
        obtain ⟨j, hj, rfl⟩ := List.getElem_of_mem hx
        have e : B.getD j [] = B[j] := by rw [List.getD_eq_getElem?_getD, List.getElem?_eq_getElem hj]; rfl
        rw [HL.out] at hj
        rw [← e]
        exact ⟨HJ.out.2.2 j hj, HX.out.bytes hj⟩
      have HA := Lib.hid hall
      clear HJ ho hall
      go_wp2_with fail
      go_ret2
      exact ⟨Or.inl ⟨HT.out.2, va, vc, by rw [HL.out]; rfl, by rw [HL.out]; exact HO.out, HA.out⟩, HB.out⟩
end Go.Proofs.YtmcblhgpcgnaoaaGreatDoor


namespace Go.Proofs.YtmcblhgpcgnaoaaGreatDoor
open Go.RowKit
set_option linter.unusedVariables false
set_option linter.unusedSimpArgs false

/-- Are these a volume's blocks? -/
def volB (B : List (List Int)) : Bool :=
  decide (64 ≤ B.length) && (isSup (B.getD 0 []) && (decide ((supAt B).a = (B.length : Int)) && (isHead (B.getD 1 []) && (sealedB (B.getD 2 []) && (List.range 32).all fun k => isNode (halfAt B k)))))
theorem volB_iff {B : List (List Int)} : volB B = true ↔ VolOk B := by
  unfold volB
  simp only [Bool.and_eq_true, decide_eq_true_iff, List.all_eq_true, List.mem_range]
  constructor
  · rintro ⟨h1, h2, h3, h4, h5, h6⟩
    have hs : (supAt B).sound = true := by
      have h := h2
      unfold isSup at h
      have e : supAt B = readSup (B.getD 0 []) := by unfold supAt getSup; rw [if_pos h2]
      rw [e]
      simp only [Bool.and_eq_true] at h
      exact h.2.1
    have hs2 := of_decide_eq_true hs
    exact ⟨⟨h1, by omega⟩, h2, h3, h4, h5, h6⟩
  · intro h
    exact ⟨h.n64.1, h.sup, h.siz, h.head, h.sld, h.nodes⟩
theorem volB_cut {B : List (List Int)} (h : ¬ (64 ≤ B.length ∧ isSup (B.getD 0 []) = true ∧ (supAt B).a = (B.length : Int) ∧ isHead (B.getD 1 []) = true ∧ sealedB (B.getD 2 []) = true)) : volB B = false := by
  cases hv : volB B with
  | false => rfl
  | true =>
    have k := volB_iff.1 hv
    exact absurd ⟨k.n64.1, k.sup, k.siz, k.head, k.sld⟩ h
theorem volB_node {B : List (List Int)} {k : Nat} (hk : k < 32) (h : isNode (halfAt B k) = false) : volB B = false := by
  cases hv : volB B with
  | false => rfl
  | true =>
    have q := (volB_iff.1 hv).nodes k hk
    rw [h] at q
    cases q

section
variable {ops : Array Oper} {rest : List Oper} {o : Oper} {a : Act} {w : World} {Q : Exit → Act → World → Prop}
/-- A store whose cells nobody reads again. -/
theorem wp_store_dead (hg : o.guard = none) (T : TypeId) (x y : Operand) (ho : o.op = .store T x y) (b : Nat) (vs : Array Value) (hx : a.eval x = .pointer (some ⟨b, 0, none⟩)) (hy : a.eval y = .agg vs) (ht : w.there b 0 vs.size) (hi : (Tryz.prog.info? T).map (·.size) = some vs.size) (h1 : vs.all (·.oneCell') = true) (hd : o.dst = none)
    (h : ∀ w2, (∀ base w0, base ≤ b → Below base w0 w → Below base w0 w2) → wpList Tryz.prog ops Q rest (a.put none undef) w2) : wpList Tryz.prog ops Q (o :: rest) a w := by
  refine wpList_store_mid hg T x y ho b 0 vs hx hy ht hi h1 ?_
  rw [hd]
  exact h _ (fun base w0 hb hB => below_cells _ hb _ _ _ hB)
end
theorem there_new0 (w : World) (cs : Array Value) (T : TypeId) {n : Nat} (hn : cs.size = n) : (w.alloc (.cells cs T)).there w.heap.size 0 n := there_newC (Below.refl _ _) hn

set_option maxRecDepth 100000 in
set_option maxHeartbeats 3200000 in
theorem isound_any {w : World} {g n cap : Nat} {B : List (List Int)} (hR : Rw w g B) (hn : B.length = n) (h0 : 0 < n) (hc : n ≤ cap) (hm : n ≤ 100000) :
    Calls Tryz.prog 63 #[.slice (some ⟨g, 0, none⟩) n cap] w (Says w.heap.size w (volB B)) := by
  by_cases h64 : n < 64
  · have HF := Lib.hid (volB_cut (B := B) (fun h => by have := h.1; omega))
    have i1 : (n : Int) < 64 := by omega
    clear hR hn h64
    go_enter Tryz.func63, Tryz.ntmps63
    go_wp2_with fail
    go_ret
    exact ⟨by rw [HF.out]; rfl, Below.refl _ _⟩
  · have HRW : Hid (∀ W, Below w.heap.size w W → Rw W g B) := Lib.hid (fun W hW => hR.later (by omega) hW)
    have HN := Lib.hid hn
    obtain ⟨x0, x1, x2, x3, x4, hX⟩ : ∃ x0 x1 x2 x3 x4, getSup (B.getD 0 []) = ⟨x0, x1, x2, x3, x4⟩ := ⟨_, _, _, _, _, rfl⟩
    obtain ⟨es, hes⟩ : ∃ es, getSupErr (B.getD 0 []) = es := ⟨_, rfl⟩
    obtain ⟨y0, y1, hY⟩ : ∃ y0 y1, getHead (B.getD 1 []) = ⟨y0, y1⟩ := ⟨_, _, rfl⟩
    obtain ⟨eh, heh⟩ : ∃ eh, getHeadErr (B.getD 1 []) = eh := ⟨_, rfl⟩
    obtain ⟨sl, hsl⟩ : ∃ sl, sealedB (B.getD 2 []) = sl := ⟨_, rfl⟩
    have HS : Hid (∀ W, Below w.heap.size w W → Calls Tryz.prog 110 #[.slice (some ⟨g, 0, none⟩) 64 64] W fun e' w' => e' = .returned (.tuple #[.agg #[.int .i64 x0, .int .i64 x1, .int .i64 x2, .int .i64 x3, .int .i64 x4], .int .i64 es]) ∧ Below W.heap.size W w') := Lib.hid (fun W hW => by
      have hA := (HRW.out W hW).whole (i := 0) (cap := 64) (by omega) (by decide)
      rw [Nat.zero_mul] at hA
      have h := sdec_any _ _ _ _ _ hA
      rw [hes, hX] at h
      exact h)
    have HH : Hid (∀ W, Below w.heap.size w W → Calls Tryz.prog 113 #[.slice (some ⟨g, 64, none⟩) 64 64] W fun e' w' => e' = .returned (.tuple #[.agg #[.int .i64 y0, .int .i64 y1], .int .i64 eh]) ∧ Below W.heap.size W w') := Lib.hid (fun W hW => by
      have hA := (HRW.out W hW).whole (i := 1) (cap := 64) (by omega) (by decide)
      rw [Nat.one_mul] at hA
      have h := shead_any _ _ _ _ _ hA
      rw [heh, hY] at h
      exact h)
    have HSE : Hid (∀ W, Below w.heap.size w W → Calls Tryz.prog 114 #[.slice (some ⟨g, 128, none⟩) 64 64] W (Says W.heap.size W sl)) := Lib.hid (fun W hW => by
      have hA := (HRW.out W hW).whole (i := 2) (cap := 64) (by omega) (by decide)
      have h := fSealed_any _ _ _ _ _ hA
      rw [hsl] at h
      exact h)
    have j1 : ¬ (n : Int) < 64 := by omega
    have j2 : 64 ≤ n := by omega
    have j3 : (64 : Int) ≤ (n : Int) := by omega
    by_cases hall : isSup (B.getD 0 []) = true ∧ x0 = (n : Int) ∧ isHead (B.getD 1 []) = true ∧ sl = true
    · have hsup := hall.1
      have hx0 := hall.2.1
      have hhd := hall.2.2.1
      have hsl2 := hall.2.2.2
      obtain rfl : es = 0 := by rw [← hes]; unfold getSupErr; rw [if_pos hsup]
      obtain rfl : eh = 0 := by rw [← heh]; unfold getHeadErr; rw [if_pos hhd]
      subst hx0 hsl2
      have HV : Hid ((∀ k, k < 32 → isNode (halfAt B k) = true) → volB B = true) := Lib.hid (fun h => volB_iff.2 (by
        have h1 : volB B = true := by
          unfold volB
          simp only [Bool.and_eq_true, decide_eq_true_iff, List.all_eq_true, List.mem_range]
          exact ⟨by omega, hsup, by unfold supAt; rw [hX, hn], hhd, hsl, h⟩
        exact volB_iff.1 h1))
      have HVN : Hid (∀ k, k < 32 → isNode (halfAt B k) = false → volB B = false) := Lib.hid (fun k hk h => volB_node hk h)
      have HD : Hid (∀ (k : Nat), k < 32 → ∀ W, Below w.heap.size w W → Calls Tryz.prog 115 #[.slice (some ⟨g, (3 + k / 2) * 64 + k % 2 * 32, none⟩) 32 (64 - k % 2 * 32)] W fun e w' => ∃ xo m xc k0 f l z d0 d1 d2 d3 s t c, e = .returned (.tuple #[.agg #[.int .i64 k0, .int .i64 f, .int .i64 l, .int .i64 z, .int .i64 d0, .int .i64 d1, .int .i64 d2, .int .i64 d3, .int .i64 s, .int .i64 t, .slice xo m xc, .int .i64 c], .int .i64 (decErr (halfAt B k))]) ∧ Below W.heap.size W w') := Lib.hid (fun k hk W hW => by
        have hA := (HRW.out W hW).arg (i := 3 + k / 2) (d := k % 2 * 32) (m := 32) (cap := 64 - k % 2 * 32) (by omega) (by omega) (by omega)
        refine (ndec_any _ _ _ _ _ hA).mono ?_
        rintro e w' ⟨xo, m, xc, rfl, _, _, hb⟩
        exact ⟨xo, m, xc, _, _, _, _, _, _, _, _, _, _, _, rfl, hb⟩)
      clear hR hn hX hes hY heh hsl hall hsup hhd
      go_enter Tryz.func63, Tryz.ntmps63
      go_wp2_with (first
          | (go_at_call 110; refine (HS.out _ (Below.refl _ _)).mono ?_; rintro e' w3 ⟨rfl, hb3⟩; have HB3 := Lib.hid hb3; clear hb3)
          | (go_at_call 113; refine (HH.out _ (HB3.out.alloc HB3.out.size _)).mono ?_; rintro e' w4 ⟨rfl, hb4⟩; have hb3 := HB3.out.alloc HB3.out.size; have HB4 := Lib.hid ((HB3.out.alloc HB3.out.size _).trans (hb4.mono (HB3.out.alloc HB3.out.size _).size)); clear hb4 hb3)
          | (go_at_call 114; refine (HSE.out _ (HB4.out.alloc HB4.out.size _)).mono ?_; rintro e' w5 ⟨rfl, hb5⟩; have HB5 := Lib.hid ((HB4.out.alloc HB4.out.size _).trans (hb5.mono (HB4.out.alloc HB4.out.size _).size)); clear hb5))
      have hb5 : Below w.heap.size w (w5.alloc (.cells #[.slice (some ⟨g, 0, none⟩) n cap, .slice none 0 0] 83)) := HB5.out.alloc HB5.out.size _
      have HJ0 : Hid (Below w.heap.size w (w5.alloc (.cells #[.slice (some ⟨g, 0, none⟩) n cap, .slice none 0 0] 83)) ∧ (w5.alloc (.cells #[.slice (some ⟨g, 0, none⟩) n cap, .slice none 0 0] 83)).cell? ⟨w5.heap.size, 0, none⟩ = some (.slice (some ⟨g, 0, none⟩) n cap) ∧ ∀ k, k < 0 → isNode (halfAt B k) = true) := Lib.hid ⟨hb5, by rw [World.cell?_alloc_new]; rfl, fun k hk => absurd hk (by omega)⟩
      clear hb5 HS HH HSE
      go_loopw [46] (fun kv wr => ∃ i : Nat, i ≤ 32 ∧ kv = .int .i64 i ∧ Hid (Below w.heap.size w wr ∧ wr.cell? ⟨w5.heap.size, 0, none⟩ = some (.slice (some ⟨g, 0, none⟩) n cap) ∧ ∀ k, k < i → isNode (halfAt B k) = true)) (fun kv _ => 32 - (intOf kv).toNat)
      case atStart => exact ⟨0, Nat.zero_le _, rfl, HJ0⟩
      case round =>
        obtain ⟨i, hi, rfl, HJ⟩ := hrel
        clear HJ0
        by_cases hlt : i < 32
        · have i2 : (i : Int) < 32 := by omega
          have cH := half_any i HJ.out.2.1 (by omega) hlt
          have cD := HD.out i hlt wr HJ.out.1
          cases hin : isNode (halfAt B i) with
          | true =>
            rw [show decErr (halfAt B i) = 0 by unfold decErr; rw [if_pos hin]] at cD
            have HIN := Lib.hid hin
            clear hin
            go_wp2_with (first
              | (go_at_call 102; refine cH.mono ?_; rintro e' w' ⟨rfl, rfl⟩)
              | (go_at_call 115; refine cD.mono ?_; rintro e' w6 ⟨xo, xm, xc, k0, nf, nl, nz, d0, d1, d2, d3, ns, nt, nc, rfl, hb6⟩; have HB6 := Lib.hid hb6; clear hb6)
              | (refine wp_store_dead rfl 49 (.tmp 9) (.tmp 53) rfl w6.heap.size #[.int .i64 k0, .int .i64 nf, .int .i64 nl, .int .i64 nz, .int .i64 d0, .int .i64 d1, .int .i64 d2, .int .i64 d3, .int .i64 ns, .int .i64 nt, .slice xo xm xc, .int .i64 nc] rfl rfl (there_new0 _ _ _ rfl) (by kernel_rfl) (one_node ..) rfl ?_; intro w7 hw7; have HB7 : Hid (Below wr.heap.size wr w7) := Lib.hid (hw7 _ _ HB6.out.size (HB6.out.alloc HB6.out.size _)); clear hw7))
            go_roundw
            case rel => exact ⟨i + 1, by omega, by go_num, Lib.hid ⟨HJ.out.1.trans (HB7.out.mono HJ.out.1.size), cell_later HB7.out HJ.out.2.1, fun k hk => by
              by_cases e : k = i
              · rw [e]; exact HIN.out
              · exact HJ.out.2.2 k (by omega)⟩⟩
            case measure => simp [intOf]; omega
          | false =>
            rw [show decErr (halfAt B i) = 2 by unfold decErr; rw [if_neg (by rw [hin]; decide)]] at cD
            have HF := Lib.hid (HVN.out i hlt hin)
            clear hin
            go_wp2_with (first
              | (go_at_call 102; refine cH.mono ?_; rintro e' w' ⟨rfl, rfl⟩)
              | (go_at_call 115; refine cD.mono ?_; rintro e' w6 ⟨xo, xm, xc, k0, nf, nl, nz, d0, d1, d2, d3, ns, nt, nc, rfl, hb6⟩; have HB6 := Lib.hid hb6; clear hb6)
              | (refine wp_store_dead rfl 49 (.tmp 9) (.tmp 53) rfl w6.heap.size #[.int .i64 k0, .int .i64 nf, .int .i64 nl, .int .i64 nz, .int .i64 d0, .int .i64 d1, .int .i64 d2, .int .i64 d3, .int .i64 ns, .int .i64 nt, .slice xo xm xc, .int .i64 nc] rfl rfl (there_new0 _ _ _ rfl) (by kernel_rfl) (one_node ..) rfl ?_; intro w7 hw7; have HB7 : Hid (Below wr.heap.size wr w7) := Lib.hid (hw7 _ _ HB6.out.size (HB6.out.alloc HB6.out.size _)); clear hw7))
            go_ret
            exact ⟨by rw [HF.out]; rfl, HJ.out.1.trans (HB7.out.mono HJ.out.1.size)⟩
        · have hit : i = 32 := by omega
          subst hit
          have HT := Lib.hid (HV.out HJ.out.2.2)
          have HB := Lib.hid HJ.out.1
          clear HJ
          go_wp2_with fail
          go_ret
          exact ⟨by rw [HT.out]; rfl, HB.out⟩
    · have HF : Hid (volB B = false) := Lib.hid (volB_cut (fun h => hall ⟨h.2.1, by have := h.2.2.1; unfold supAt at this; rw [hX, hn] at this; exact this, h.2.2.2.1, by rw [← hsl]; exact h.2.2.2.2⟩))
      have hway : (es = 2) ∨ (es = 0 ∧ (x0 != (n : Int)) = true) ∨ (es = 0 ∧ x0 = (n : Int) ∧ eh = 2) ∨ (es = 0 ∧ x0 = (n : Int) ∧ eh = 0 ∧ sl = false) := by
        unfold getSupErr at hes
        unfold getHeadErr at heh
        cases h1 : isSup (B.getD 0 []) with
        | false => rw [if_neg (by rw [h1]; decide)] at hes; exact Or.inl hes.symm
        | true =>
          rw [if_pos h1] at hes
          by_cases h2 : x0 = (n : Int)
          · cases h3 : isHead (B.getD 1 []) with
            | false => rw [if_neg (by rw [h3]; decide)] at heh; exact Or.inr (Or.inr (Or.inl ⟨hes.symm, h2, heh.symm⟩))
            | true =>
              rw [if_pos h3] at heh
              refine Or.inr (Or.inr (Or.inr ⟨hes.symm, h2, heh.symm, ?_⟩))
              cases h4 : sl with
              | false => rfl
              | true => exact absurd ⟨h1, h2, h3, h4⟩ hall
          · exact Or.inr (Or.inl ⟨hes.symm, by simpa using h2⟩)
      clear hR hn hX hes hY heh hsl hall
      rcases hway with rfl | ⟨rfl, hne⟩ | ⟨rfl, rfl, rfl⟩ | ⟨rfl, rfl, rfl, rfl⟩
      all_goals
        go_enter Tryz.func63, Tryz.ntmps63
        go_wp2_with (first
          | (go_at_call 110; refine (HS.out _ (Below.refl _ _)).mono ?_; rintro e' w3 ⟨rfl, hb3⟩; have HB3 := Lib.hid hb3; clear hb3)
          | (go_at_call 113; refine (HH.out _ (HB3.out.alloc HB3.out.size _)).mono ?_; rintro e' w4 ⟨rfl, hb4⟩; have hb3 := HB3.out.alloc HB3.out.size; have HB4 := Lib.hid ((HB3.out.alloc HB3.out.size _).trans (hb4.mono (HB3.out.alloc HB3.out.size _).size)); clear hb4 hb3)
          | (go_at_call 114; refine (HSE.out _ (HB4.out.alloc HB4.out.size _)).mono ?_; rintro e' w5 ⟨rfl, hb5⟩; have HB5 := Lib.hid ((HB4.out.alloc HB4.out.size _).trans (hb5.mono (HB4.out.alloc HB4.out.size _).size)); clear hb5))
        go_ret
        exact ⟨by rw [HF.out]; rfl, by first | exact HB5.out | exact HB4.out.alloc HB4.out.size _ | exact HB3.out.alloc HB3.out.size _⟩
end Go.Proofs.YtmcblhgpcgnaoaaGreatDoor


namespace Go.Proofs.YtmcblhgpcgnaoaaGreatDoor
open Go.RowKit
set_option linter.unusedVariables false
set_option linter.unusedSimpArgs false

set_option maxRecDepth 100000 in
theorem isound_few {w : World} {ao : Option Addr} {n cap : Nat} (h : n < 64) :
    Calls Tryz.prog 63 #[.slice ao n cap] w fun e w' => e = .returned (.bool false) ∧ w = w' := by
  have i1 : (n : Int) < 64 := by omega
  clear h
  go_enter Tryz.func63, Tryz.ntmps63
  go_wp2_with fail
  go_ret
  exact ⟨rfl, rfl⟩

/-- Are these a volume's blocks, as Open is handed them? -/
def openB (B : List (List Int)) : Bool := len64 B && volB B
/-- What Open hands back. -/
def OpenDone (w : World) (B : List (List Int)) (e : Ending) (w' : World) : Prop :=
  ((openB B = true ∧ ∃ a F', e = .returned (.tuple #[.pointer (some a), .int .i64 0]) ∧ ImgI w' a F' ⟨B, B, B⟩ ∧ ∀ k, F' k → w.heap.size ≤ k) ∨ (openB B = false ∧ e = .returned (.tuple #[.pointer none, .int .i64 2]))) ∧ Below w.heap.size w w'

set_option maxRecDepth 100000 in
set_option maxHeartbeats 3200000 in
theorem iopen_any {ao : Option Addr} {m c : Nat} {B : List (List Int)} (w : World) (hX : RowsIn w ao m c B) (hm : ∀ i, i ≤ m → (∀ j, j < i → (B.getD j []).length = 64) → i ≤ 99999) (hm2 : m ≤ 140737488351232) :
    Calls Tryz.prog 19 #[.slice ao m c] w (OpenDone w B) := by
  have hl := hX.1
  have hm9 := hm m (Nat.le_refl _)
  have cA := arrays_any w hX hm hm2
  clear hX hm
  cases h64 : len64 B with
  | false =>
    have HO := Lib.hid (show openB B = false by unfold openB; rw [h64]; rfl)
    have cA2 : Calls Tryz.prog 62 #[.slice ao m c] w fun e w' => e = .returned (.tuple #[.slice none 0 0, .bool false]) ∧ Below w.heap.size w w' := cA.mono (fun e w' h => by
      rcases h.1 with ⟨h1, _⟩ | ⟨_, h2⟩
      · rw [h64] at h1; cases h1
      · exact ⟨h2, h.2⟩)
    clear cA h64 hl hm9
    go_enter Tryz.func19, Tryz.ntmps19
    go_wp2_with (go_at_call 62; refine cA2.mono ?_; rintro e w1 ⟨rfl, hb⟩; have HB := Lib.hid hb; clear hb)
    go_ret2
    exact ⟨Or.inr ⟨HO.out, rfl⟩, HB.out⟩
  | true =>
    have hall : ∀ j, j < m → (B.getD j []).length = 64 := fun j hj => len64_iff.1 h64 j (by omega)
    have h99 := hm9 hall
    have cA2 : Calls Tryz.prog 62 #[.slice ao m c] w fun e w' => ∃ ao cap, e = .returned (.tuple #[.slice ao m cap, .bool true]) ∧ w'.ownsRow w.heap.size 102 64 (.slice ao m cap) m (flat B) ∧ All64 B ∧ Below w.heap.size w w' := cA.mono (fun e w' h => by
      rcases h.1 with ⟨_, a2, c2, h2, h3, h4⟩ | ⟨h1, _⟩
      · rw [hl] at h2 h3
        exact ⟨a2, c2, h2, h3, h4, h.2⟩
      · rw [h64] at h1; cases h1)
    by_cases h0 : m = 0
    · subst h0
      have HO := Lib.hid (show openB B = false by
        unfold openB
        rw [volB_cut (fun h => by have := h.1; omega), Bool.and_false])
      clear cA h64 hl hm9 hall h99
      go_enter Tryz.func19, Tryz.ntmps19
      go_wp2_with (first
        | (go_at_call 62; refine cA2.mono ?_; rintro e w1 ⟨a2, c2, rfl, _, _, hb⟩; have HB := Lib.hid hb; clear hb)
        | (go_at_call 63; refine (isound_few (by decide)).mono ?_; rintro e w2 ⟨rfl, rfl⟩))
      go_ret2
      exact ⟨Or.inr ⟨HO.out, rfl⟩, HB.out⟩
    · have cA3 : Calls Tryz.prog 62 #[.slice ao m c] w fun e w' => ∃ g cap, e = .returned (.tuple #[.slice (some ⟨g, 0, none⟩) m cap, .bool true]) ∧ (Rw w' g B ∧ w.heap.size ≤ g ∧ m ≤ cap) ∧ Below w.heap.size w w' := cA2.mono (fun e w' ⟨a2, c2, he, h3, h4, h5⟩ => by
        obtain ⟨g, cap, hv, hc, _, hg, _, hr⟩ := rw_of_owns h3 h4 (by omega)
        rw [hv] at he
        exact ⟨g, cap, he, ⟨hr, hg, hc⟩, h5⟩)
      clear cA cA2
      cases hv : volB B with
      | false =>
        have HO := Lib.hid (show openB B = false by unfold openB; rw [hv, Bool.and_false])
        have HV := Lib.hid hv
        have HL := Lib.hid hl
        have HM := Lib.hid (show 0 < m ∧ m ≤ 100000 from ⟨by omega, by omega⟩)
        clear h64 hl hm9 hall h99 hv
        go_enter Tryz.func19, Tryz.ntmps19
        go_wp2_with (first
          | (go_at_call 62; refine cA3.mono ?_; rintro e w1 ⟨g2, c2, rfl, hr, hb⟩; have HB := Lib.hid hb; have HR := Lib.hid hr; clear hb hr)
          | (go_at_call 63; have cS := isound_any HR.out.1 HL.out HM.out.1 HR.out.2.2 HM.out.2; rw [HV.out] at cS; refine cS.mono ?_; rintro e w2 ⟨rfl, hb⟩; have HB2 := Lib.hid (HB.out.trans (hb.mono HB.out.size)); clear hb cS))
        go_ret2
        exact ⟨Or.inr ⟨HO.out, rfl⟩, HB2.out⟩
      | true =>
        have HO := Lib.hid (show openB B = true by unfold openB; rw [hv, h64]; rfl)
        have hVol := volB_iff.1 hv
        have HV := Lib.hid hv
        have HL := Lib.hid hl
        have HM := Lib.hid (show 0 < m ∧ m ≤ 480 from ⟨by omega, by have := hVol.n64.2; omega⟩)
        clear h64 hl hm9 hall h99 hv hVol
        go_enter Tryz.func19, Tryz.ntmps19
        go_wp2_with (first
          | (go_at_call 62; refine cA3.mono ?_; rintro e w1 ⟨g2, c2, rfl, hr, hb⟩; have HB := Lib.hid hb; have HR := Lib.hid hr; clear hb hr)
          | (go_at_call 63; have cS := isound_any HR.out.1 HL.out HM.out.1 HR.out.2.2 (by have := HM.out.2; omega); rw [HV.out] at cS; refine cS.mono ?_; rintro e w2 ⟨rfl, hb⟩; have HB2 := Lib.hid (HB.out.trans (hb.mono HB.out.size)); have HR2 := Lib.hid (HR.out.1.later (by rw [HL.out]; exact HM.out.1) hb); clear hb cS)
          | (go_at_call 50; refine (iof_any HR2.out HL.out HM.out.1 HM.out.2 HR.out.2.2).mono ?_; rintro e w3 ⟨a, F', rfl, hI, hF, hb⟩; have H3 := Lib.hid (And.intro hI (And.intro hF hb)); clear hI hF hb))
        go_ret2
        refine ⟨Or.inl ⟨HO.out, a, F', rfl, H3.out.1, fun k hk => ?_⟩, HB2.out.trans (H3.out.2.2.mono HB2.out.size)⟩
        have h2 := HB2.out.size
        have h3 := HR.out.2.1
        rcases H3.out.2.1 k hk with e | e <;> omega
end Go.Proofs.YtmcblhgpcgnaoaaGreatDoor


namespace Go.Proofs.YtmcblhgpcgnaoaaGreatDoor
open Go.RowKit
set_option linter.unusedVariables false
set_option linter.unusedSimpArgs false

set_option maxHeartbeats 400000 in
theorem part01_any (x : Nat) (n : Int) (w : World) (h : FI x n) (h0 : 0 ≤ n ∧ n ≤ 65535) :
    Calls Tryz.prog 228 #[.float .f64 x] w fun e w' => e = .returned (.tuple #[.int .i64 n, .bool true]) ∧ w = w' := by
  have o1 := fi_ge h fi_neg20 (by omega)
  have o2 := fi_le h fi_20 (by omega)
  have hv := fi_toInt .i64 h (by show -9223372036854775808 ≤ n; omega) (by show n ≤ 9223372036854775807; omega)
  have o3 : ∀ w, (convert 166 3 (.float .f64 x)).run Tryz.prog w = .ok (.int .i64 n) w := fun w => run_convert_float_int w 166 3 .f64 .i64 x n (by rw [Tryz.underlying166]; rfl) Tryz.underlying3 hv
  have o4 := fi_eq (fi_ofInt n (by omega)) h rfl
  clear h hv
  go_enter Tryz.func228, Tryz.ntmps228
  go_wp2
  go_ret2
  exact ⟨rfl, rfl⟩

set_option maxHeartbeats 400000 in
theorem Of01_any (x y : Nat) (a b : Int) (w : World) (hx : FI x a) (hy : FI y b) (hs : smallR a b) :
    Calls Tryz.prog 180 #[.complex .f64 x y] w fun e w' => e = .returned (.tuple #[.agg #[.int .i64 a, .int .i64 b], .bool true]) ∧ Below w.heap.size w w' := by
  unfold smallR at hs
  have c1 := fun W => part01_any x a W hx (by omega)
  have c2 := fun W => part01_any y b W hy (by omega)
  have HB : Hid (Below w.heap.size w (w.alloc (.cells #[.int .i64 a, .int .i64 b] 243))) := Lib.hid ((Below.refl _ _).alloc (Nat.le_refl _) _)
  clear hx hy hs
  go_enter Tryz.func180, Tryz.ntmps180
  go_wp2_with (go_at_call 228; first | ((with_reducible refine (c1 _).mono ?_); rintro e w' ⟨rfl, rfl⟩) | ((with_reducible refine (c2 _).mono ?_); rintro e w' ⟨rfl, rfl⟩))
  refine bodyPost_ret (v := .tuple #[.agg #[.int .i64 a, .int .i64 b], .bool true]) ?_ rfl ⟨rfl, HB.out⟩
  rw [results_cell_tmp rfl]
  go_simp
  try rfl

set_option maxRecDepth 100000 in
set_option maxHeartbeats 1600000 in
theorem Parts02_any (x y : Nat) (a b : Int) (w : World) (hx : FI x a) (hy : FI y b) (hs : smallR a b) :
    Calls Tryz.prog 131 #[.complex .f64 x y] w fun e w' => e = .returned (.tuple #[.int .i64 a, .int .i64 b, .bool (runOk a b)]) ∧ Below w.heap.size w w' := by
  have c := fun W => Of01_any x y a b W hx hy hs
  unfold smallR at hs
  have ha : 0 ≤ a := hs.1
  have hd0 : decide (0 ≤ a) = true := decide_eq_true ha
  have hw : IntKind.i64.wrap (a + b) = a + b := by rw [IntKind.wrap_i64]; omega
  by_cases h1 : 1 ≤ b
  · have hd1 : decide (1 ≤ b) = true := decide_eq_true h1
    by_cases h2 : a + b ≤ 480
    · have hd2 : decide (a + b ≤ 480) = true := decide_eq_true h2
      have HV : Hid (runOk a b = true) := Lib.hid (decide_eq_true ⟨ha, h1, h2⟩)
      clear hx hy hs
      go_enter Tryz.func131, Tryz.ntmps131
      go_wp2_with (go_at_call 180; refine (c _).mono ?_; rintro e w2 ⟨rfl, hb⟩; have B2 := Lib.hid (hb.alloc hb.size (.cells #[.int .i64 a, .int .i64 b] 243)); clear hb)
      go_quiet (fail)
      go_wp2_with fail
      go_ret3
      exact ⟨by rw [HV.out]; rfl, below_drewN B2.out _⟩
    · have hd2 : decide (a + b ≤ 480) = false := decide_eq_false h2
      have HV : Hid (runOk a b = false) := Lib.hid (decide_eq_false (fun h => h2 h.2.2))
      clear hx hy hs
      go_enter Tryz.func131, Tryz.ntmps131
      go_wp2_with (go_at_call 180; refine (c _).mono ?_; rintro e w2 ⟨rfl, hb⟩; have B2 := Lib.hid (hb.alloc hb.size (.cells #[.int .i64 a, .int .i64 b] 243)); clear hb)
      go_quiet (fail)
      go_wp2_with fail
      go_ret3
      exact ⟨by rw [HV.out]; rfl, below_drewN B2.out _⟩
  · have hd1 : decide (1 ≤ b) = false := decide_eq_false h1
    have HV : Hid (runOk a b = false) := Lib.hid (decide_eq_false (fun h => h1 h.2.1))
    clear hx hy hs
    go_enter Tryz.func131, Tryz.ntmps131
    go_wp2_with (go_at_call 180; refine (c _).mono ?_; rintro e w2 ⟨rfl, hb⟩; have B2 := Lib.hid (hb.alloc hb.size (.cells #[.int .i64 a, .int .i64 b] 243)); clear hb)
    go_quiet (fail)
    go_wp2_with fail
    go_ret3
    exact ⟨by rw [HV.out]; rfl, below_drewN B2.out _⟩

/-- Is it a data block? -/
def dataB (p : Int) : Bool := decide (59 ≤ p ∧ p < 480)

theorem Data09_any (p : Int) (w : World) : Calls Tryz.prog 166 #[.int .i64 p] w fun e w' => e = .returned (.bool (dataB p)) ∧ w = w' := by
  by_cases h1 : 59 ≤ p
  · by_cases h2 : p < 480
    · have HE : Hid (dataB p = true) := Lib.hid (decide_eq_true ⟨h1, h2⟩)
      go_enter Tryz.func166, Tryz.ntmps166
      go_wp2
      go_ret
      exact ⟨by rw [HE.out]; rfl, rfl⟩
    · have HE : Hid (dataB p = false) := Lib.hid (decide_eq_false (fun h => h2 h.2))
      go_enter Tryz.func166, Tryz.ntmps166
      go_wp2
      go_ret
      exact ⟨by rw [HE.out]; rfl, rfl⟩
  · have HE : Hid (dataB p = false) := Lib.hid (decide_eq_false (fun h => h1 h.1))
    go_enter Tryz.func166, Tryz.ntmps166
    go_wp2
    go_ret
    exact ⟨by rw [HE.out]; rfl, rfl⟩

/-- Six numbers in memory. -/
def Six (w : World) (g : Nat) (l : List Int) : Prop := l.length = 6 ∧ ∀ j x, l[j]? = some x → w.cell? ⟨g, j, none⟩ = some (.int .i64 x)
theorem Six.later {w w' : World} {g : Nat} {l : List Int} (h : Six w g l) (hb : Below w.heap.size w w') : Six w' g l := ⟨h.1, fun j x hj => cell_later hb (h.2 j x hj)⟩

set_option maxHeartbeats 800000 in
theorem all09_any (n : PNode) (v : Value) (hv : v.oneCell' = true) (w : World) (hsl : ∃ ao m cap, v = .slice ao m cap) : Calls Tryz.prog 108 #[n.val v] w fun e w' => ∃ g, e = .returned (.slice (some ⟨g, 0, none⟩) (6 : Nat) (6 : Nat)) ∧ Six w' g n.ptrs ∧ Below w.heap.size w w' := by
  obtain ⟨k, f, l, z, d0, d1, d2, d3, s, t, x, c⟩ := n
  obtain ⟨ao, m, cap, rfl⟩ := hsl
  unfold PNode.val PNode.ptrs
  simp only
  have HB : Hid (Below w.heap.size w (w.alloc (.cells #[.int .i64 k, .int .i64 f, .int .i64 l, .int .i64 z, .int .i64 d0, .int .i64 d1, .int .i64 d2, .int .i64 d3, .int .i64 s, .int .i64 t, .slice ao m cap, .int .i64 c] 49))) := Lib.hid ((Below.refl _ _).alloc (Nat.le_refl _) _)
  go_enter Tryz.func108, Tryz.ntmps108
  go_wp2_with fail
  go_ret
  refine ⟨w.heap.size + 1, rfl, ⟨rfl, fun j u hj => ?_⟩, HB.out.alloc HB.out.size _⟩
  rw [← World.size_alloc w (.cells #[.int .i64 k, .int .i64 f, .int .i64 l, .int .i64 z, .int .i64 d0, .int .i64 d1, .int .i64 d2, .int .i64 d3, .int .i64 s, .int .i64 t, .slice ao m cap, .int .i64 c] 49), World.cell?_alloc_new]
  match j, hj with
  | 0, h | 1, h | 2, h | 3, h | 4, h | 5, h => cases h; rfl
  | j + 6, h => cases h

end Go.Proofs.YtmcblhgpcgnaoaaGreatDoor

