/-
  Proved here: what the landed entry writes of sound entries (write), and what Encode answers.
  The conditions stand at each theorem.
-/
import Derived.Test.YtkpgefjbhimmgaaEntSpots
import Derived.Test.YtkpgefjbhimmgaaFieldPut
import Derived.Test.YtkpgefjbhimmgaaFieldSet
import Derived.Test.YtkpgefjbhimmgaaFieldText
import Derived.Test.YtkpgefjbhimmgaaFieldSeal
namespace Go.Proofs.Ytkpgefjbhimmgaa
open Go.RowKit
set_option linter.unusedVariables false
set_option linter.unusedSimpArgs false

theorem two_cells_new (w : World) (x y : Value) (T : TypeId) : ∀ (j : Nat) (u : Value), [x, y][j]? = some u → (w.alloc (.cells #[x, y] T)).cell? ⟨w.heap.size, j, none⟩ = some u := by
  intro j u hj
  match j, hj with
  | 0, hj => simp at hj; subst hj; simp
  | 1, hj => simp at hj; subst hj; simp
  | j + 2, hj => simp at hj

def noEnt : PEnt := ⟨0, ByteArray.empty⟩
/-- What comes of a block behind i entries. -/
def wrE (es : List PEnt) : Nat → List Int
  | 0 => setOut (List.replicate 64 0) 0 1 es.length
  | i + 1 => textOut (setOut (setOut (wrE es i) (2 + 19 * (i : Int)) 1 (es.getD i noEnt).node) (2 + 19 * (i : Int) + 1) 1 ((es.getD i noEnt).name.size : Int)) (2 + 19 * (i : Int) + 2) (bytesOf (es.getD i noEnt).name)

theorem setOut_one {L A : List Int} {p m : Nat} {v : Int} (hL : L = A ++ List.replicate m 0) (hA : A.length = p) (hm : L.length = 64) (hp : p + 1 ≤ 60) (hv : 0 ≤ v ∧ v < 256) : setOut L (p : Int) 1 v = (A ++ [v]) ++ List.replicate (m - 1) 0 := by
  have he : setErr L.length (p : Int) 1 v = 0 := by
    have hf : fErr 64 (p : Int) 1 = 0 := by
      unfold fErr
      rw [if_pos rfl, if_neg (by omega)]
    rw [hm]
    unfold setErr
    rw [if_neg (by simp [hf]), if_neg]
    show ¬ (v < 0 ∨ 0 < v / 256)
    omega
  have hl : m = 64 - p := by rw [hL, List.length_append, List.length_replicate] at hm; omega
  rw [setOut_ok he]
  show L.set (((p : Int)).toNat + 0) (v % 256) = _
  rw [Int.toNat_natCast, Nat.add_zero, hL, List.set_append_right _ _ (by omega), hA, Nat.sub_self, Int.emod_eq_of_lt hv.1 hv.2, List.append_assoc]
  congr 1
  obtain ⟨k, rfl⟩ : ∃ k, m = k + 1 := ⟨m - 1, by omega⟩
  rfl

theorem textOut_one {L A : List Int} {p m : Nat} {ss : List Int} (hL : L = A ++ List.replicate m 0) (hA : A.length = p) (hm : L.length = 64) (hp : p + ss.length ≤ 60) : textOut L (p : Int) ss = (A ++ ss) ++ List.replicate (m - ss.length) 0 := by
  have he : textErr L.length (p : Int) ss.length = 0 := by
    rw [hm]
    unfold textErr
    rw [if_pos rfl, if_neg (by omega)]
  unfold textOut
  rw [if_pos he, Int.toNat_natCast, hL]
  subst hA
  rw [List.take_left, drop_len, List.drop_replicate]

theorem take_flat {es : List PEnt} {i : Nat} {x : PEnt} (h : es[i]? = some x) : (es.take (i + 1)).flatMap entBytes = (es.take i).flatMap entBytes ++ entBytes x := by
  rw [List.take_add_one, h, List.flatMap_append]
  simp

/-- What has been written is what the document asks, as far as it goes. -/
theorem wrE_is {es : List PEnt} (h : soundE [es] = true) : ∀ i, i ≤ es.length → wrE es i = ([(es.length : Int), 0] ++ (es.take i).flatMap entBytes) ++ List.replicate (62 - 19 * i) 0 ∧ (wrE es i).length = 64
  | 0, _ => by
    have h3 := (sound_one h).1
    have e := setOut_one (L := List.replicate 64 0) (A := []) (p := 0) (m := 64) (v := es.length) rfl rfl rfl (by omega) (by omega)
    have e2 : wrE es 0 = ([(es.length : Int), 0] ++ (es.take 0).flatMap entBytes) ++ List.replicate (62 - 19 * 0) 0 := by
      show setOut (List.replicate 64 0) 0 1 es.length = _
      exact e.trans rfl
    refine ⟨e2, ?_⟩
    rw [e2]
    rfl
  | i + 1, hi => by
    obtain ⟨h3, hr⟩ := sound_one h
    obtain ⟨ih, il⟩ := wrE_is h i (by omega)
    have hx : es[i]? = some es[i] := List.getElem?_eq_getElem (by omega)
    have hg : es.getD i noEnt = es[i] := by simp [List.getD, hx]
    generalize es[i] = x at hx hg
    obtain ⟨n1, n2, n3⟩ := hr x (List.mem_of_getElem? hx)
    have n4 := named_size n3
    have hsz : ∀ y ∈ es.take i, y.name.size ≤ 17 := fun y hy => (named_size (hr y (List.mem_of_mem_take hy)).2.2).2
    have hfl : ((es.take i).flatMap entBytes).length = 19 * i := by rw [flat_length hsz, List.length_take]; omega
    have hAl : ([(es.length : Int), 0] ++ (es.take i).flatMap entBytes).length = 2 + 19 * i := by
      rw [List.length_append, hfl]; rfl
    generalize hAA : [(es.length : Int), 0] ++ (es.take i).flatMap entBytes = A at *
    have s1 := setOut_one (v := x.node) ih hAl il (by omega) ⟨n1, by omega⟩
    have l1 : ((A ++ [x.node]) ++ List.replicate (62 - 19 * i - 1) 0).length = 64 := by simp [hAl]; omega
    have s2 := setOut_one (L := (A ++ [x.node]) ++ List.replicate (62 - 19 * i - 1) 0) (p := 2 + 19 * i + 1) (v := (x.name.size : Int)) rfl (by simp [hAl]) l1 (by omega) ⟨by omega, by omega⟩
    have l2 : ((A ++ [x.node] ++ [(x.name.size : Int)]) ++ List.replicate (62 - 19 * i - 1 - 1) 0).length = 64 := by simp [hAl]; omega
    have s3 := textOut_one (L := (A ++ [x.node] ++ [(x.name.size : Int)]) ++ List.replicate (62 - 19 * i - 1 - 1) 0) (p := 2 + 19 * i + 2) (ss := bytesOf x.name) rfl (by simp [hAl]) l2 (by rw [bytesOf_length]; omega)
    have e2 : wrE es (i + 1) = ([(es.length : Int), 0] ++ (es.take (i + 1)).flatMap entBytes) ++ List.replicate (62 - 19 * (i + 1)) 0 := by
      show textOut (setOut (setOut (wrE es i) (2 + 19 * (i : Int)) 1 (es.getD i noEnt).node) (2 + 19 * (i : Int) + 1) 1 ((es.getD i noEnt).name.size : Int)) (2 + 19 * (i : Int) + 2) (bytesOf (es.getD i noEnt).name) = _
      rw [hg, show (2 + 19 * (i : Int)) = ((2 + 19 * i : Nat) : Int) by omega, s1, show (((2 + 19 * i : Nat) : Int) + 1) = ((2 + 19 * i + 1 : Nat) : Int) by omega, s2, show (((2 + 19 * i : Nat) : Int) + 2) = ((2 + 19 * i + 2 : Nat) : Int) by omega, s3, take_flat hx, ← List.append_assoc, hAA]
      unfold entBytes
      have e3 : List.replicate (62 - 19 * i - 1 - 1 - (bytesOf x.name).length) (0 : Int) = List.replicate (17 - x.name.size) 0 ++ List.replicate (62 - 19 * (i + 1)) 0 := by
        rw [List.replicate_append_replicate, bytesOf_length]
        congr 1
        omega
      rw [e3]
      simp [List.append_assoc]
    refine ⟨e2, ?_⟩
    show (textOut (setOut (setOut (wrE es i) (2 + 19 * (i : Int)) 1 (es.getD i noEnt).node) (2 + 19 * (i : Int) + 1) 1 ((es.getD i noEnt).name.size : Int)) (2 + 19 * (i : Int) + 2) (bytesOf (es.getD i noEnt).name)).length = 64
    rw [hg, show (2 + 19 * (i : Int)) = ((2 + 19 * i : Nat) : Int) by omega, s1, show (((2 + 19 * i : Nat) : Int) + 1) = ((2 + 19 * i + 1 : Nat) : Int) by omega, s2, show (((2 + 19 * i : Nat) : Int) + 2) = ((2 + 19 * i + 2 : Nat) : Int) by omega, s3]
    simp [hAl, bytesOf_length]
    omega

theorem wrE_sealed {es : List PEnt} (h : soundE [es] = true) : sealOut sumS (wrE es es.length) = entBlock es := by
  obtain ⟨e, l⟩ := wrE_is h es.length (Nat.le_refl _)
  obtain ⟨_, b2, b3⟩ := entB_bytes h
  unfold sealOut
  rw [if_pos l]
  unfold entBlock
  refine sealed_of b3 l (fun k hk => ?_)
  rw [e, List.take_length]
  show (entB es ++ List.replicate (62 - 19 * es.length) 0).getD k 0 = _
  by_cases hkl : k < (entB es).length
  · rw [List.getD_eq_getElem?_getD, List.getElem?_append_left hkl, ← List.getD_eq_getElem?_getD]
  · rw [List.getD_eq_getElem?_getD, List.getElem?_append_right (by omega), List.getElem?_replicate, List.getD_eq_getElem?_getD, List.getElem?_eq_none (by omega)]
    split <;> rfl

theorem fresh_form {w : World} {base : Nat} {v : Value} {l : List Int} (h : Fresh w base v l) : ∃ ao cap, v = .slice ao l.length cap ∧ Arg w ao l.length cap l := by
  obtain ⟨ao, cap, hv, hA, _⟩ := h
  exact ⟨ao, cap, hv, hA⟩

set_option maxHeartbeats 1600000 in
theorem write_any (ao : Option Addr) (len cap : Nat) (es : List PEnt) (w : World) (hA : EntArg w ao len cap es) (hs : soundE [es] = true) : Calls Try.prog 27 #[.slice ao len cap] w (Gives w.heap.size w (entBlock es)) := by
  have hmk := run_make_bytes w 64 (by decide)
  rw [show ((64 : Nat) : Int) = 64 from rfl] at hmk
  have hl : es.length = len := hA.1.1
  have h3 : len ≤ 3 := by rw [← hl]; exact (sound_one hs).1
  have HA := Lib.hid hA
  have HS := Lib.hid (wrE_sealed hs)
  have HL := Lib.hid hl
  have HW : Hid (wrE es 0 = setOut (List.replicate 64 0) 0 1 len) := Lib.hid (by rw [← hl]; rfl)
  have HB0 : Hid (Below w.heap.size w (w.alloc (.cells (madeCells #[.int .u8 0] 64) 5))) := Lib.hid ((Below.refl _ _).alloc (Nat.le_refl _) _)
  have cS := fSet_any _ 64 64 (List.replicate 64 0) 0 1 (len : Int) _ (made_arg w 64 (by decide)) (by decide) (by decide) (by omega)
  clear hA hs hl
  generalize hw1 : w.alloc (.cells (madeCells #[.int .u8 0] 64) 5) = w1 at *
  have HW1 := Lib.hid hw1
  clear hw1
  go_enter Try.func27, Try.ntmps27
  go_wp2_with fail
  go_at_call 39
  refine cS.mono ?_
  rintro e w2 ⟨v2, rfl, hf2, hb2⟩
  have F2 : Hid (Fresh w2 w.heap.size v2 (wrE es 0)) := Lib.hid (by rw [HW.out]; exact hf2.mono HB0.out.size)
  have B2 : Hid (Below w.heap.size w w2) := Lib.hid (HB0.out.trans (hb2.mono HB0.out.size))
  generalize setErr 64 0 1 (len : Int) = E at *
  clear hf2 hb2 cS
  go_wp2_with fail
  go_loopw [3, 17] (fun bv iv wr => ∃ i : Nat, iv = .int .i64 (i : Int) ∧ i ≤ len ∧ Hid (Fresh wr w.heap.size bv (wrE es i)) ∧ Hid (Below w.heap.size w wr)) (fun _ iv _ => len - (intOf iv).toNat)
  case atStart => exact ⟨0, rfl, Nat.zero_le _, F2, B2⟩
  case round =>
    obtain ⟨i, rfl, hi, HF, HB⟩ := hrel
    by_cases hlt : i < len
    · obtain ⟨eb, eo, x, hao2, hx, d1, d2, d3, d4⟩ := ent_at (HA.out.later HB.out) hlt
      subst hao2
      have HST : Hid (wrE es (i + 1) = textOut (setOut (setOut (wrE es i) (2 + 19 * (i : Int)) 1 x.node) (2 + 19 * (i : Int) + 1) 1 (x.name.size : Int)) (2 + 19 * (i : Int) + 2) (bytesOf x.name)) := Lib.hid (by
        show textOut (setOut (setOut (wrE es i) (2 + 19 * (i : Int)) 1 (es.getD i noEnt).node) (2 + 19 * (i : Int) + 1) 1 ((es.getD i noEnt).name.size : Int)) (2 + 19 * (i : Int) + 2) (bytesOf (es.getD i noEnt).name) = _
        rw [show es.getD i noEnt = x by simp [List.getD, hx]])
      obtain ⟨nd, nm⟩ := x
      dsimp only at d1 d2 d3 d4 HST
      generalize wrE es i = L at *
      obtain ⟨a4, c4, rfl, hA4⟩ := fresh_form HF.out
      have HA4 := Lib.hid hA4
      have HND := Lib.hid d2
      have i1 : (i : Int) < (len : Int) := by omega
      have HB3 : Hid (Below wr.heap.size wr (wr.alloc (.cells #[.int .i64 nd, .string nm] 40))) := Lib.hid ((Below.refl _ _).alloc (Nat.le_refl _) _)
      clear hx hA4 d2
      generalize hLn : L.length = ln at *
      clear hLn
      go_wp2_with fail
      go_at_call 39
      refine (fSet_any a4 _ c4 L (2 + 19 * (i : Int)) 1 nd _ (HA4.out.later HB3.out) (by omega) (by decide) HND.out).mono ?_
      rintro e w5 ⟨v5, rfl, hf5, hb5⟩
      have B5 := Lib.hid (HB3.out.trans (hb5.mono HB3.out.size))
      generalize setErr ln (2 + 19 * (i : Int)) 1 nd = E5 at *
      generalize setOut L (2 + 19 * (i : Int)) 1 nd = L5 at *
      have k1 := cell_later hb5 (two_cells_new wr (.int .i64 nd) (.string nm) 40 1 _ rfl)
      have k0 := cell_later hb5 (two_cells_new wr (.int .i64 nd) (.string nm) 40 0 _ rfl)
      obtain ⟨a5, c5, rfl, hA5⟩ := fresh_form hf5
      have A5 := Lib.hid hA5
      clear hf5 hb5 hA5
      generalize hLn5 : L5.length = ln5 at *
      clear hLn5
      go_wp2_with fail
      go_at_call 39
      refine (fSet_any a5 _ c5 L5 (2 + 19 * (i : Int) + 1) 1 (nm.size : Int) _ A5.out (by omega) (by decide) (by omega)).mono ?_
      rintro e w6 ⟨v6, rfl, hf6, hb6⟩
      have B6 := Lib.hid (B5.out.trans (hb6.mono B5.out.size))
      generalize setErr ln5 (2 + 19 * (i : Int) + 1) 1 (nm.size : Int) = E6 at *
      generalize setOut L5 (2 + 19 * (i : Int) + 1) 1 (nm.size : Int) = L6 at *
      have m1 := cell_later hb6 k1
      clear k0 k1
      obtain ⟨a6, c6, rfl, hA6⟩ := fresh_form hf6
      have A6 := Lib.hid hA6
      clear hf6 hb6 hA6
      generalize hLn6 : L6.length = ln6 at *
      clear hLn6
      go_wp2_with fail
      go_at_call 40
      refine (fText_any a6 _ c6 L6 (2 + 19 * (i : Int) + 2) nm _ A6.out (by omega) (by omega)).mono ?_
      rintro e w7 ⟨v7, rfl, hf7, hb7⟩
      have F7 : Hid (Fresh w7 w.heap.size v7 (wrE es (i + 1))) := Lib.hid (by rw [HST.out]; exact hf7.mono (Nat.le_trans HB.out.size B6.out.size))
      have B7 := Lib.hid (HB.out.trans ((B6.out.trans (hb7.mono B6.out.size)).mono HB.out.size))
      generalize textErr ln6 (2 + 19 * (i : Int) + 2) nm.size = E7 at *
      clear hf7 hb7
      go_wp2_with fail
      go_roundw
      case rel => exact ⟨i + 1, by go_num, by omega, F7, B7⟩
      case measure => simp [intOf]; omega
    · obtain rfl : i = len := by omega
      have HF2 : Hid (sealOut sumS (wrE es i) = entBlock es) := Lib.hid (by have := HS.out; rwa [HL.out] at this)
      generalize wrE es i = L at *
      obtain ⟨a4, c4, rfl, hA4⟩ := fresh_form HF.out
      have cT := fSeal_any a4 _ c4 L wr hA4
      clear hA4
      generalize hLn : L.length = ln at *
      clear hLn
      go_wp2_with fail
      go_at_call 41
      refine cT.mono ?_
      rintro e w5 ⟨v5, rfl, hf5, hb5⟩
      rw [HF2.out] at hf5
      have F5 := Lib.hid (hf5.mono HB.out.size)
      have B5 := Lib.hid (HB.out.trans (hb5.mono HB.out.size))
      clear hf5 hb5
      go_wp2_with fail
      go_ret
      exact ⟨v5, rfl, F5.out, B5.out⟩

/-- What Encode answers. -/
def EncDone (w0 : World) (es : List PEnt) (e : Ending) (w : World) : Prop := Handed w0.heap.size w0 (entOut es) (entErr es) e w

set_option maxHeartbeats 1600000 in
theorem eenc_any (ao : Option Addr) (len cap : Nat) (es : List PEnt) (w : World) (hA : EntArg w ao len cap es) : Calls Try.prog 12 #[.slice ao len cap] w (EncDone w es) := by
  have HA := Lib.hid hA
  have hone := blk_one (T := 22) hA
  have cP := spots_any _ 1 1 [es] _ hone (by decide)
  unfold SpotsDone at cP
  have HB1 : Hid (Below w.heap.size w (w.alloc (.cells #[.slice ao len cap] 22))) := Lib.hid ((Below.refl _ _).alloc (Nat.le_refl _) _)
  clear hA hone
  by_cases hs : soundE [es] = true
  · have HS := Lib.hid hs
    have HO : Hid (entOut es = entBlock es ∧ entErr es = 0) := Lib.hid (by unfold entOut entErr; rw [if_pos hs, if_pos hs]; exact ⟨rfl, rfl⟩)
    simp only [if_pos hs] at cP
    clear hs
    go_enter Try.func12, Try.ntmps12
    go_wp2_with fail
    go_at_call 26
    refine cP.mono ?_
    rintro e w2 ⟨B, n, rfl, h2, b2⟩
    have B2 := Lib.hid (HB1.out.trans (b2.mono HB1.out.size))
    clear h2 b2
    go_wp2_with fail
    go_at_call 27
    refine (write_any ao len cap es w2 (HA.out.later B2.out) HS.out).mono ?_
    rintro e w3 ⟨v3, rfl, f3, b3⟩
    have F3 := Lib.hid f3
    have B3 := Lib.hid (B2.out.trans (b3.mono B2.out.size))
    clear f3 b3
    go_wp2_with fail
    go_ret2
    unfold EncDone
    rw [HO.out.1, HO.out.2]
    exact ⟨v3, rfl, F3.out.mono B2.out.size, B3.out⟩
  · have HO : Hid (entOut es = [] ∧ entErr es = 2) := Lib.hid (by unfold entOut entErr; rw [if_neg hs, if_neg hs]; exact ⟨rfl, rfl⟩)
    simp only [if_neg hs] at cP
    clear hs
    go_enter Try.func12, Try.ntmps12
    go_wp2_with fail
    go_at_call 26
    refine cP.mono ?_
    rintro e w2 ⟨rfl, b2⟩
    have B2 := Lib.hid (HB1.out.trans (b2.mono HB1.out.size))
    clear b2
    go_wp2_with fail
    go_ret2
    unfold EncDone
    rw [HO.out.1, HO.out.2]
    exact ⟨_, rfl, Fresh.nil _ _, B2.out⟩

end Go.Proofs.Ytkpgefjbhimmgaa
