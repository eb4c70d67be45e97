/-
  Proved here: how the landed tree writes a page into a block (write), and what it reads out of one (read).
  The conditions stand at each theorem.
-/
import Derived.Test.YtdbkhhmadefccaaTrNeed
import Derived.Test.YtdbkhhmadefccaaFieldSet
import Derived.Test.YtdbkhhmadefccaaFieldGet
import Derived.Test.YtdbkhhmadefccaaFieldSeal
import Derived.Test.YtdbkhhmadefccaaFresh
import Derived.Laws.ResultCell
namespace Go.Proofs.Ytdbkhhmadefccaa
open Go.RowKit
set_option linter.unusedVariables false
set_option linter.unusedSimpArgs false

theorem wp_idx {ops : Array Oper} {rest : List Oper} {o : Oper} {a : Act} {w : World} {Q : Exit → Act → World → Prop} (hgd : o.guard = none) (x i : Operand) (t : TypeId) (ho : o.op = .index t x i) (v : Value)
    (hr : ∀ w, (Instr.index t (a.eval x) (a.eval i)).run Try.prog w = .ok v w) (h : wpList Try.prog ops Q rest (a.put o.dst v) w) : wpList Try.prog ops Q (o :: rest) a w := by
  refine wpList_plain hgd fun K hK => ?_
  unfold Oper.wp
  simp [execOp, ho, hr, Result.andThen]
  exact hK _ _ h

theorem idx_ints {t : TypeId} {n : Nat} (hu : Try.prog.underlying t = some (.array n 3)) {p : List Int} (hl : p.length = n) {i : Nat} (hi : i < n) : ∀ w, (Instr.index t (.agg (ints p).toArray) (.int .i64 (i : Int))).run Try.prog w = .ok (.int .i64 (p.getD i 0)) w := by
  intro w
  have z := Try.sizeOf3
  have hp := part_int w p i (by omega)
  have h3 : (i : Int) < (n : Int) := by omega
  unfold Instr.index
  simp [asIntOf, run_underlying hu, z, h3, Result.andThen, hp]
  intro h
  omega

/-- The bytes of the first i numbers, and zeros. -/
def bytesW (p : List Int) (i : Nat) : List Int := ((p.take i).flatMap fun x => leB x 2) ++ List.replicate (64 - 2 * i) 0

theorem bytesW_succ {p : List Int} {i : Nat} (hi : i < p.length) (h30 : i < 30) : lay (bytesW p i) (2 * i) (leB (p.getD i 0) 2) = bytesW p (i + 1) := by
  unfold bytesW
  have hl : ((p.take i).flatMap fun x => leB x 2).length = 2 * i := by rw [flat_len, List.length_take]; omega
  have h := lay_end ((p.take i).flatMap fun x => leB x 2) (leB (p.getD i 0) 2) (64 - 2 * i) (by rw [leB_length]; omega)
  rw [hl] at h
  rw [h, leB_length, List.take_add_one, List.getElem?_eq_getElem hi, List.flatMap_append]
  have e : p.getD i 0 = p[i] := by rw [List.getD_eq_getElem?_getD, List.getElem?_eq_getElem hi]; rfl
  rw [e, show 64 - 2 * (i + 1) = 64 - 2 * i - 2 by omega]
  simp

theorem bytesW_page {p : List Int} (h : p.length = 30) : sealOf sumS (bytesW p 30) = pageB p := by
  have hl : (p.flatMap fun x => leB x 2).length = 60 := by rw [flat_len, h]
  have e : bytesW p 30 = (p.flatMap fun x => leB x 2) ++ List.replicate 4 0 := by
    unfold bytesW
    rw [List.take_of_length_le (by omega)]
  have h64 : (bytesW p 30).length = 64 := by rw [e, List.length_append, hl, List.length_replicate]
  unfold pageB
  rw [sealOf_take h64, seal_short (by omega), hl, Nat.sub_self, List.replicate_zero, List.append_nil, e, List.take_append_of_le_length (by omega), List.take_of_length_le (by omega)]

theorem set_small (zs : List Int) (i : Nat) (x : Int) (hl : zs.length = 64) (hi : i < 30) (hx : 0 ≤ x ∧ x ≤ 65535) : setErr 64 (2 * (i : Int)) 2 x = 0 ∧ setOut zs (2 * (i : Int)) 2 x = lay zs (2 * i) (leB x 2) := by
  have hf : fErr 64 (2 * (i : Int)) 2 = 0 := by unfold fErr; rw [if_pos rfl, if_neg (by omega)]
  have he : setErr 64 (2 * (i : Int)) 2 x = 0 := by
    unfold setErr
    rw [hf, if_neg (by decide), show (2 : Int).toNat = 2 from rfl, putK_quot, if_neg (by
      have : x / 256 ^ 2 = 0 := by
        rw [show (256 : Int) ^ 2 = 65536 from rfl]
        omega
      omega)]
  refine ⟨he, ?_⟩
  rw [setOut_ok (by rw [hl]; exact he), show (2 * (i : Int)).toNat = 2 * i by omega, show (2 : Int).toNat = 2 from rfl, putK_lay]

set_option maxRecDepth 100000 in
set_option maxHeartbeats 6400000 in
theorem write_any (p : List Int) (w : World) (h : p.length = 30) (hp : ∀ x ∈ p, 0 ≤ x ∧ x ≤ 65535) : Calls Try.prog 40 #[pageV p] w fun e w' => ∃ v, e = .returned v ∧ Fresh w' w.heap.size v (pageB p) ∧ Below w.heap.size w w' := by
  have hr : ∀ o T, ((w.alloc (.cells (ints p).toArray 48)).alloc (.cells o T)).rangeAt w.heap.size 0 (ints p) := fun o T j v hj => by
    rw [Nat.zero_add]
    refine cell_later ((Below.refl _ _).alloc (Nat.le_refl _) _) ?_
    rw [World.cell?_alloc_new]
    simpa using hj
  have HI := Lib.hid (iPage h)
  have HR := Lib.hid hr
  have HP := Lib.hid hp
  have HL := Lib.hid h
  have hmk : ∀ W : World, (Instr.makeSlice 61 (.int .i64 64) (.int .i64 64)).run Try.prog W = .ok (.slice (some ⟨W.heap.size, 0, none⟩) 64 64) (W.alloc (.cells (madeCells #[.int .u8 0] 64) 5)) := fun W => run_make_bytes W 64 (by decide)
  have HM : Hid (Arg ((w.alloc (.cells (ints p).toArray 48)).alloc (.cells (madeCells #[.int .u8 0] 64) 5)) (some ⟨(w.alloc (.cells (ints p).toArray 48)).heap.size, 0, none⟩) 64 64 (List.replicate 64 0)) := Lib.hid (made_arg _ 64 (by decide))
  unfold pageV
  clear hr hp
  go_enter Try.func40, Try.ntmps40
  go_wp2_with (refine wpList_load_mid rfl 48 (.tmp 1) rfl w.heap.size 0 rfl (ints p) _ (HR.out _ _) uPage rfl HI.out ?_)
  have HB0 : Hid (Below w.heap.size w ((w.alloc (.cells (ints p).toArray 48)).alloc (.cells (madeCells #[.int .u8 0] 64) 5))) := Lib.hid (((Below.refl _ _).alloc (Nat.le_refl _) _).alloc (by simp) _)
  go_loopw [3, 8] (fun sv iv wr => ∃ i : Nat, iv = .int .i64 (i : Int) ∧ i ≤ 30 ∧ (∃ ao cap, sv = .slice ao (64 : Nat) cap ∧ Hid (Arg wr ao 64 cap (bytesW p i))) ∧ Hid (Below w.heap.size w wr)) (fun _ iv _ => 30 - (intOf iv).toNat)
  case atStart => exact ⟨0, rfl, Nat.zero_le _, ⟨_, _, rfl, Lib.hid (by have := HM.out; simpa [bytesW] using this)⟩, HB0⟩
  case round =>
    obtain ⟨i, rfl, hi, ⟨ao, cap, rfl, HA⟩, HB⟩ := hrel
    by_cases hlt : i < 30
    · have i1 : (i : Int) < 30 := by omega
      have hx : 0 ≤ p.getD i 0 ∧ p.getD i 0 ≤ 65535 := HP.out _ (by rw [List.getD_eq_getElem?_getD, List.getElem?_eq_getElem (by have := HL.out; omega)]; exact List.getElem_mem _)
      have hIx := idx_ints uPage HL.out hlt
      have HIX := Lib.hid hIx
      have hbl : (bytesW p i).length = 64 := HA.out.1.1
      have hs := set_small (bytesW p i) i (p.getD i 0) hbl hlt hx
      rw [bytesW_succ (by rw [HL.out]; exact hlt) hlt] at hs
      have cS := fSet_any ao 64 cap (bytesW p i) (2 * (i : Int)) 2 (p.getD i 0) wr HA.out (by omega) (by decide) (by omega)
      rw [hs.1, hs.2] at cS
      have w2 : wrap64 (2 * (i : Int)) = 2 * (i : Int) := by unfold wrap64; omega
      have hbl2 : (bytesW p (i + 1)).length = 64 := by
        rw [← hs.2]
        have := hs.1
        rw [← hbl] at this
        rw [setOut_ok this]
        rw [show (2 * (i : Int)).toNat = 2 * i by omega, show (2 : Int).toNat = 2 from rfl, putK_lay, lay_length, hbl]
      have HBL := Lib.hid hbl2
      generalize p.getD i 0 = x at *
      clear hs hx hbl hbl2 hIx
      go_wp2_with (first | (refine wp_idx rfl (.tmp 7) (.tmp 8) 48 rfl _ HIX.out ?_) | (go_at_call 49; refine cS.mono ?_; rintro e w5 ⟨v5, rfl, hf, hb⟩; have HF := Lib.hid hf; have HB5 := Lib.hid hb; clear hf hb))
      obtain ⟨ao5, cap5, rfl, hA5, _⟩ := HF.out
      rw [HBL.out] at hA5
      go_roundw
      case rel => exact ⟨i + 1, by go_num, by omega, ⟨ao5, cap5, by rw [HBL.out], Lib.hid hA5⟩, Lib.hid (HB.out.trans (HB5.out.mono HB.out.size))⟩
      case measure => simp [intOf]; omega
    · obtain rfl : i = 30 := by omega
      have cS := fSeal_any ao 64 cap (bytesW p 30) wr HA.out
      have e1 : sealErr 64 = 0 := rfl
      have e2 : sealOut sumS (bytesW p 30) = pageB p := by
        unfold sealOut
        rw [if_pos HA.out.1.1]
        exact bytesW_page HL.out
      rw [e1, e2] at cS
      clear e1 e2
      go_wp2_with (go_at_call 50; refine cS.mono ?_; rintro e w5 ⟨v5, rfl, hf, hb⟩; have HF := Lib.hid hf; have HB5 := Lib.hid hb; clear hf hb)
      go_ret
      exact ⟨v5, rfl, HF.out.mono HB.out.size, HB.out.trans (HB5.out.mono HB.out.size)⟩

/-! ### Reading a page -/

theorem words_get (zs : List Int) {i : Nat} (hi : i < 30) (hl : zs.length = 64) : (words zs).getD i 0 = getOut zs (2 * (i : Int)) 2 := by
  have hf : fErr zs.length (2 * (i : Int)) 2 = 0 := by unfold fErr; rw [if_pos hl, if_neg (by omega)]
  unfold getOut words
  rw [if_pos hf, List.getD_eq_getElem?_getD, List.getElem?_map, List.getElem?_range hi, show (2 * (i : Int)).toNat = 2 * i by omega]
  rfl

theorem words_length (zs : List Int) : (words zs).length = 30 := by unfold words; simp

theorem page_there (w : World) (g : Nat) (h : w.rangeAt g 0 (ints (List.replicate 30 0))) (hf : ∀ j, w.frozen? ⟨g, j, none⟩ = false) : w.there g 0 30 := by
  intro j hj
  refine ⟨?_, hf _⟩
  rw [h j (.int .i64 0) (ints_get (by rw [List.getElem?_replicate, if_pos hj]))]
  rfl

theorem results_cell_p {fn : Func} {p : Tmp} {ty : TypeId} (h : fn.results = #[.cell p ty]) (tmps : Array Value) (P : Program) (w : World) :
    (results fn tmps).run P w = ((asAddr (tmps.getD p undef)).run P w).andThen fun a w₁ => (loadVar ty a).run P w₁ := by
  simp only [results, h]
  simp [Sem.run_bind, Result.andThen]
theorem iPageA {p : List Int} (h : p.length = 30) : (Try.prog.info? 48).map (·.size) = some (ints p).toArray.size := by rw [List.size_toArray]; exact iPage h
theorem Keeps.frozen {g : Nat} {w w' : World} (h : Keeps g w w') {p : Addr} (hp : p.block ≠ g) : w'.frozen? p = w.frozen? p := World.frozen?_of_block (w := w) (h.2 p.block hp)
theorem Keeps.there {g b o n : Nat} {w w' : World} (h : Keeps g w w') (ht : w.there b o n) (hb : b ≠ g) : w'.there b o n := fun j hj => by
  rw [h.cell (p := ⟨b, o + j, none⟩) hb, h.frozen (p := ⟨b, o + j, none⟩) hb]
  exact ht j hj

theorem made_page (w : World) : OwnV w.heap.size w w.heap.size (ints (List.replicate 30 0)) (w.alloc (.cells zero30 48)) := by
  refine ⟨fun j x hj => ?_, fun j => by rw [World.frozen?_alloc_mark]; simp, Nat.le_refl _, (Below.refl _ _).alloc (Nat.le_refl _) _⟩
  rw [World.cell?_alloc_new]
  have e : zero30 = (ints (List.replicate 30 0)).toArray := rfl
  rw [e]
  simpa using hj

/-- A page that is being read, i numbers of it. -/
def Reading (w0 w2 : World) (P : List Int) (i : Nat) (wr : World) : Prop :=
  OwnV w0.heap.size w0 (w0.heap.size + 1) (ints (P.take i ++ List.replicate (30 - i) 0)) wr ∧ Keeps (w0.heap.size + 1) w2 wr

theorem set_mid (P : List Int) (i n : Nat) (hi : i < P.length) (hn : i < n) (x : Int) (hx : x = P.getD i 0) : (P.take i ++ List.replicate (n - i) 0).set i x = P.take (i + 1) ++ List.replicate (n - (i + 1)) 0 := by
  have hl2 : (P.take i).length = i := by rw [List.length_take]; omega
  have e3 : P.take (i + 1) = P.take i ++ [x] := by
    rw [List.take_add_one, List.getElem?_eq_getElem hi, hx, List.getD_eq_getElem?_getD, List.getElem?_eq_getElem hi]
    rfl
  rw [e3, List.set_append_right _ _ (by omega), hl2, Nat.sub_self, show n - i = (n - (i + 1)) + 1 by omega, List.replicate_succ, List.set_cons_zero, List.append_assoc]
  rfl

theorem Reading.step {w0 w2 wr : World} {P : List Int} {i : Nat} (h : Reading w0 w2 P i wr) (hl : P.length = 30) (hi : i < 30) (x : Int) (hx : x = P.getD i 0) : Reading w0 w2 P (i + 1) (wr.setCell ⟨w0.heap.size + 1, i, none⟩ (.int .i64 x)) := by
  refine ⟨?_, h.2.trans (Keeps.set wr ⟨w0.heap.size + 1, i, none⟩ _)⟩
  have h1 := h.1.store (k := i) (y := .int .i64 x) (by rw [ints_length, List.length_append, List.length_take, List.length_replicate]; omega)
  rw [← ints_set, set_mid P i 30 (by omega) hi x hx] at h1
  exact h1

set_option maxRecDepth 100000 in
set_option maxHeartbeats 6400000 in
theorem read_any (ao : Option Addr) (cap : Nat) (zs : List Int) (w : World) (hA : Arg w ao 64 cap zs) : Calls Try.prog 55 #[.slice ao (64 : Nat) cap] w fun e w' => e = .returned (pageV (words zs)) ∧ Below w.heap.size w w' := by
  have HA := Lib.hid hA
  clear hA
  have HWG := Lib.hid (fun i (hi : i < 30) => words_get zs hi HA.out.1.1)
  have HPL := Lib.hid (words_length zs)
  obtain ⟨P, hP⟩ : ∃ P, words zs = P := ⟨_, rfl⟩
  rw [hP] at HWG HPL ⊢
  clear hP
  have HM : Hid (Reading w ((w.alloc (.cells zero30 48)).alloc (.cells zero30 48)) P 0 ((w.alloc (.cells zero30 48)).alloc (.cells zero30 48))) := Lib.hid (by
    have h := made_page (w.alloc (.cells zero30 48))
    rw [World.size_alloc] at h
    refine ⟨⟨h.1, h.2.1, Nat.le_succ _, ((Below.refl _ _).alloc (Nat.le_refl _) _).alloc (by simp) _⟩, Keeps.refl _ _⟩)
  have HT : Hid (((w.alloc (.cells zero30 48)).alloc (.cells zero30 48)).there w.heap.size 0 30) := Lib.hid (by
    have h := made_page w
    exact World.there_alloc (page_there _ _ (own_range h) h.2.1) _)
  unfold zero30 at HM HT
  go_enter Try.func55, Try.ntmps55
  go_wp2_with fail
  obtain ⟨W2, hW2⟩ : ∃ W2, W2 = (w.alloc (.cells zero30 48)).alloc (.cells zero30 48) := ⟨_, rfl⟩
  unfold zero30 at hW2
  rw [← hW2] at HM HT ⊢
  clear hW2
  go_loopw [5] (fun iv wr => ∃ i : Nat, iv = .int .i64 (i : Int) ∧ i ≤ 30 ∧ Hid (Reading w W2 P i wr)) (fun iv _ => 30 - (intOf iv).toNat)
  case atStart => exact ⟨0, rfl, Nat.zero_le _, HM⟩
  case round =>
    obtain ⟨i, rfl, hi, HR⟩ := hrel
    by_cases hlt : i < 30
    · have i1 : (i : Int) < 30 := by omega
      have w2 : wrap64 (2 * (i : Int)) = 2 * (i : Int) := by unfold wrap64; omega
      have cG := fGet_any ao 64 cap zs (2 * (i : Int)) 2 wr (HA.out.later HR.out.1.2.2.2) (by omega) (by decide)
      have HX : Hid (getOut zs (2 * (i : Int)) 2 = P.getD i 0) := Lib.hid (HWG.out i hlt).symm
      have c4 := HR.out.1.1 i _ (ints_get (x := ((P.take i ++ List.replicate (30 - i) 0).getD i 0)) (by
        rw [List.getD_eq_getElem?_getD, List.getElem?_eq_getElem (by rw [List.length_append, List.length_take, List.length_replicate, HPL.out]; omega)]
        rfl))
      have f4 := HR.out.1.2.1 i
      generalize (P.take i ++ List.replicate (30 - i) 0).getD i 0 = y at *
      generalize getOut zs (2 * (i : Int)) 2 = x at *
      generalize fErr 64 (2 * (i : Int)) 2 = E at *
      go_wp2_with (go_at_call 62; refine cG.mono ?_; rintro e w5 ⟨rfl, rfl⟩)
      go_roundw
      case rel => exact ⟨i + 1, by go_num, by omega, Lib.hid (HR.out.step HPL.out hlt x HX.out)⟩
      case measure => simp [intOf]; omega
    · obtain rfl : i = 30 := by omega
      have HO : Hid (OwnV w.heap.size w (w.heap.size + 1) (ints P) wr) := Lib.hid (by
        have h := HR.out.1
        rw [List.take_of_length_le (by rw [HPL.out]; omega), Nat.sub_self, List.replicate_zero, List.append_nil] at h
        exact h)
      have HTh : Hid (wr.there w.heap.size 0 (ints P).toArray.size) := Lib.hid (by
        have e : (ints P).toArray.size = 30 := by rw [List.size_toArray, ints_length, HPL.out]
        rw [e]
        exact HR.out.2.there HT.out (by omega))
      have HRG : Hid ((wr.setCells w.heap.size 0 (ints P)).rangeAt w.heap.size 0 (ints P)) := Lib.hid (World.rangeAt_setCells_same _ _ _ _ (by
        have h := HTh.out
        have e : (ints P).toArray.size = (ints P).length := by simp
        rwa [e] at h))
      have HBB : Hid (Below w.heap.size w (wr.setCells w.heap.size 0 (ints P).toArray.toList)) := Lib.hid (below_cells _ (Nat.le_refl _) _ _ _ HR.out.1.2.2.2)
      go_wp2_with (first | (refine wpList_load_mid rfl 48 (.tmp 3) rfl (w.heap.size + 1) 0 rfl (ints P) _ (own_range HO.out) uPage rfl (iPage (HPL.out)) ?_) | (refine wpList_store_mid rfl 48 (.tmp 2) (.tmp 18) rfl w.heap.size 0 (ints P).toArray rfl rfl HTh.out (iPageA (HPL.out)) (all_oneCell_toArray (ints_one _)) ?_))
      refine bodyPost_ret (v := pageV P) ?_ rfl ⟨rfl, HBB.out⟩
      rw [results_cell_p rfl]
      simp only [asAddr, Sem.run_pure, Result.andThen_ok]
      exact run_loadVar_mid _ _ _ _ _ _ HRG.out uPage rfl (iPage (HPL.out))

end Go.Proofs.Ytdbkhhmadefccaa
