/-
  Proved here: what the document's own answer says of entries as a block (Encode).
  The conditions stand at each theorem.
-/
import Derived.Test.YtkpgefjbhimmgaaEntRefS
import Derived.Test.YtkpgefjbhimmgaaRef04Put
namespace Go.Proofs.Ytkpgefjbhimmgaa
open Go.RowKit
set_option linter.unusedVariables false
set_option linter.unusedSimpArgs false

/-- Bytes of the call's own. -/
def OwnB (base : Nat) (w : World) (v : Value) (L : List Int) : Prop := w.ownsRow base 5 1 v L.length (L.map (Value.int .u8))

theorem OwnB.later {base : Nat} {w w' : World} {v : Value} {L : List Int} (h : OwnB base w v L) (hb : Below w.heap.size w w') : OwnB base w' v L := owns_later h hb

theorem ownB_two (w : World) (a b : Int) : OwnB w.heap.size (w.alloc (.cells #[.int .u8 a, .int .u8 b] 5)) (.slice (some ⟨w.heap.size, 0, none⟩) 2 2) [a, b] :=
  ⟨by simp, .inr ⟨w.heap.size, 2, #[.int .u8 a, .int .u8 b], rfl, Nat.le_refl _, heap_alloc_new w _, Nat.le_refl _, by unfold maxLen; omega, rfl, rfl⟩⟩

theorem two_bts (w : World) (x y : Int) (hx : 0 ≤ x ∧ x ≤ 255) (hy : 0 ≤ y ∧ y ≤ 255) : Bts (w.alloc (.cells #[.int .u8 x, .int .u8 y] 5)) (some ⟨w.heap.size, 0, none⟩) 2 [x, y] :=
  ⟨rfl, by decide, by simp; omega, Or.inr ⟨_, _, rfl, fun j hj => by
    rw [Nat.zero_add]
    match j, hj with
    | 0, _ => exact two_cells_new w _ _ _ 0 _ rfl
    | 1, _ => exact two_cells_new w _ _ _ 1 _ rfl⟩⟩

theorem wp_append_text {ops : Array Oper} {rest : List Oper} {o : Oper} {a : Act} {Q : Exit → Act → World → Prop} {w : World} (hgd : o.guard = none) (s x : Operand)
    (ho : o.op = .call { callee := .builtin .append, args := #[s, x], argTypes := #[23, 9] }) (base n : Nat) (v : Value) (xs : List Value) (hs : a.eval s = v) (hown : w.ownsRow base 5 1 v n xs)
    (t : ByteArray) (hx : a.eval x = .string t) (hb : n + t.size ≤ 140737488355328) (hbase : base ≤ w.heap.size)
    (h : ∀ v' w', w'.ownsRow base 5 1 v' (n + t.size) (xs ++ (bytesOf t).map (Value.int .u8)) → Below base w w' → wpList Try.prog ops Q rest (a.put o.dst v') w') : wpList Try.prog ops Q (o :: rest) a w := by
  obtain ⟨v', w', hrun, h1, h2⟩ := run_append_text w o.type base n v xs hown t hb hbase
  refine wpList_plain hgd fun K hK => ?_
  unfold Oper.wp
  simp [execOp, ho, resolve, invoke, builtin, hs, hx, hrun, Result.andThen]
  exact hK _ _ (h v' w' h1 h2)

def lenV : Value → Nat
  | .slice _ n _ => n
  | _ => 0

/-- A block's head and its first i entries. -/
def entP (es : List PEnt) (i : Nat) : List Int := [(es.length : Int), 0] ++ (es.take i).flatMap entBytes

theorem entP_step {es : List PEnt} {i : Nat} {x : PEnt} (h : es[i]? = some x) : entP es (i + 1) = (entP es i ++ [x.node, (x.name.size : Int)] ++ bytesOf x.name) ++ List.replicate (17 - x.name.size) 0 := by
  unfold entP
  rw [take_flat h]
  unfold entBytes
  simp [List.append_assoc]

theorem entP_length {es : List PEnt} (hs : soundE [es] = true) {i : Nat} (hi : i ≤ es.length) : (entP es i).length = 2 + 19 * i := by
  have hsz : ∀ y ∈ es.take i, y.name.size ≤ 17 := fun y hy => (named_size ((sound_one hs).2 y (List.mem_of_mem_take hy)).2.2).2
  unfold entP
  rw [List.length_append, flat_length hsz, List.length_take]
  show 2 + _ = _
  omega

set_option maxHeartbeats 3200000 in
theorem renc_any (ao : Option Addr) (len cap : Nat) (es : List PEnt) (w : World) (hA : EntArg w ao len cap es) : Calls Try.prog 13 #[.slice ao len cap] w (EncDone w es) := by
  have HA := Lib.hid hA
  have HL : Hid (es.length = len) := Lib.hid hA.1.1
  have hone := blk_one (T := 22) hA
  have cP := rSound_any _ 1 1 [es] _ hone (by decide)
  have HB1 : Hid (Below w.heap.size w (w.alloc (.cells #[.slice ao len cap] 22))) := Lib.hid ((Below.refl _ _).alloc (Nat.le_refl _) _)
  have hlen : len ≤ 140737488351232 := hA.1.2.1
  clear hA hone
  by_cases hs : soundE [es] = true
  · have HS := Lib.hid hs
    have HO : Hid (entOut es = entBlock es ∧ entErr es = 0) := Lib.hid (by unfold entOut entErr; rw [if_pos hs, if_pos hs]; exact ⟨rfl, rfl⟩)
    rw [hs] at cP
    have h3 : len ≤ 3 := by rw [← HL.out]; exact (sound_one hs).1
    have wl : IntKind.u8.wrap (len : Int) = (len : Int) := by rw [IntKind.wrap_u8]; omega
    clear hs
    go_enter Try.func13, Try.ntmps13
    go_wp2_with (go_at_call 28; refine cP.mono ?_; rintro e w2 ⟨rfl, b2⟩; have B2 := Lib.hid (HB1.out.trans (b2.mono HB1.out.size)); have O2 : Hid (OwnB w.heap.size (w2.alloc (.cells #[.int .u8 (len : Int), .int .u8 0] 5)) (.slice (some ⟨w2.heap.size, 0, none⟩) 2 2) (entP es 0)) := (by rw [show entP es 0 = [(len : Int), 0] by unfold entP; rw [HL.out]; rfl]; exact Lib.hid ⟨by simp, .inr ⟨w2.heap.size, 2, #[.int .u8 (len : Int), .int .u8 0], rfl, (HB1.out.trans (b2.mono HB1.out.size)).size, heap_alloc_new w2 _, Nat.le_refl _, by unfold maxLen; omega, rfl, rfl⟩⟩); clear b2)
    go_loopw [4, 5] (fun v iv wr => ∃ i : Nat, iv = .int .i64 (i : Int) ∧ i ≤ len ∧ Hid (OwnB w.heap.size wr v (entP es i)) ∧ Hid (Below w.heap.size w wr)) (fun _ iv _ => len - (intOf iv).toNat)
    case atStart => exact ⟨0, rfl, Nat.zero_le _, O2, Lib.hid (B2.out.alloc B2.out.size _)⟩
    case round =>
      obtain ⟨wo, hwo⟩ : ∃ wo : World, wo = wr := ⟨_, rfl⟩
      subst hwo
      obtain ⟨i, rfl, hi, HV, HB⟩ := hrel
      by_cases hlt : i < len
      · obtain ⟨eb, eo, x, hao2, hx, d1, d2, d3, d4⟩ := ent_at HA.out hlt
        subst hao2
        have D3 : Hid (∀ W, Below w.heap.size w W → W.cell? ⟨eb, eo + i * 2 + 1, none⟩ = some (.string x.name)) := Lib.hid (fun W hW => cell_later hW d3)
        have d1 := cell_later HB.out d1
        have d3 := cell_later HB.out d3
        have hp := entP_step hx
        have hpl := entP_length HS.out (i := i) (by rw [HL.out]; omega)
        obtain ⟨n1, n2, n3⟩ := (sound_one HS.out).2 x (List.mem_of_getElem? hx)
        have n4 := named_size n3
        obtain ⟨nd, nm⟩ := x
        dsimp only at d1 d2 d3 d4 hp n1 n2 n4 D3
        have HP := Lib.hid hp
        have HPL := Lib.hid hpl
        generalize entP es i = L at *
        have w1 : IntKind.u8.wrap nd = nd := by rw [IntKind.wrap_u8]; omega
        have w2' : IntKind.u8.wrap (nm.size : Int) = (nm.size : Int) := by rw [IntKind.wrap_u8]; omega
        have i1 : (i : Int) < (len : Int) := by omega
        have i2 : 0 ≤ (i : Int) := by omega
        have e1 : wo.drew.cell? ⟨eb, eo + i * 2, none⟩ = some (.int .i64 nd) := d1
        have e3 : wo.drew.cell? ⟨eb, eo + i * 2 + 1, none⟩ = some (.string nm) := d3
        obtain ⟨vo, vc, rfl⟩ := owns_shape HV.out
        have HNM := Lib.hid (And.intro n1 (And.intro n2 n4))
        clear hp hpl hx n3
        have HVO : Hid (wo.ownsRow w.heap.size 5 1 (.slice vo L.length vc) L.length (L.map (Value.int .u8))) := Lib.hid HV.out
        have HZ : Hid (w.heap.size ≤ wo.heap.size) := Lib.hid HB.out.size
        have HBN : Hid (Below wo.heap.size wo (wo.alloc (.cells #[.int .u8 nd, .int .u8 (nm.size : Int)] 5)).drew) := Lib.hid ((Below.refl _ _).alloc (Nat.le_refl _) _).drew
        go_wp2_with fail
        go_region_law (refine step_append_bytes (o := ⟨some 35, _, _, _, _, _⟩) rfl (.tmp 20) (.tmp 34) rfl w.heap.size L.length _ (L.map (Value.int .u8)) rfl (owns_drew (HVO.out.alloc _)) (some ⟨wo.heap.size, 0, none⟩) 2 2 [nd, (nm.size : Int)] rfl (two_bts wo nd nm.size (by have := HNM.out; omega) (by have := HNM.out; omega)) (by simp) (by have := HPL.out; omega) (by have := HZ.out; simp; omega) ?_; intro v1 w1 hown1 hb1; have HO1 := Lib.hid hown1; have B1 := Lib.hid ((HB.out.trans (HBN.out.mono HZ.out)).trans hb1); have g3 := D3.out _ B1.out; have HZ1 := Lib.hid B1.out.size; clear hown1 hb1)
        all_goals
          go_wp2_with (refine wp_append_text rfl (.tmp 36) (.tmp 41) rfl w.heap.size _ _ _ rfl HO1.out nm rfl (by have := HPL.out; have := HNM.out; omega) HZ1.out ?_; intro v2 w2 hown2 hb2; have HO2 := Lib.hid hown2; have B2' := Lib.hid (B1.out.trans hb2); clear hown2 hb2)
          have HO3 : Hid (OwnB w.heap.size w2 v2 (L ++ [nd, (nm.size : Int)] ++ bytesOf nm ++ List.replicate 0 0)) := Lib.hid (by
            unfold OwnB
            have he : (L ++ [nd, (nm.size : Int)] ++ bytesOf nm ++ List.replicate 0 0).length = L.length + 2 + nm.size := by simp [bytesOf_length]; omega
            rw [he]
            have := HO2.out
            simpa using this)
          have HL2 : Hid ((L ++ [nd, (nm.size : Int)] ++ bytesOf nm).length = 4 + 19 * i + nm.size) := Lib.hid (by
            have := HPL.out
            simp [bytesOf_length]
            omega)
          have HQ := Lib.hid HP.out
          generalize L ++ [nd, (nm.size : Int)] ++ bytesOf nm = M at *
          go_loopw [4] (fun v wr => ∃ z : Nat, 4 + 19 * i + nm.size + z ≤ 21 + 19 * i ∧ Hid (OwnB w.heap.size wr v (M ++ List.replicate z 0)) ∧ Hid (Below w.heap.size w wr)) (fun v _ => 21 + 19 * i - lenV v)
          case atStart => exact ⟨0, by have := HNM.out; omega, HO3, B2'⟩
          case round =>
            obtain ⟨z, hz, HV2, HB2⟩ := hrel
            obtain ⟨vo2, vc2, rfl⟩ := owns_shape HV2.out
            have hln : (M ++ List.replicate z 0).length = 4 + 19 * i + nm.size + z := by rw [List.length_append, HL2.out, List.length_replicate]
            have HLN := Lib.hid hln
            have HVO2 : Hid (wr.ownsRow w.heap.size 5 1 (.slice vo2 (M ++ List.replicate z 0).length vc2) (M ++ List.replicate z 0).length ((M ++ List.replicate z 0).map (Value.int .u8))) := Lib.hid HV2.out
            by_cases hzz : 4 + 19 * i + nm.size + z < 21 + 19 * i
            · have j1 : (((M ++ List.replicate z 0).length : Nat) : Int) < 2 + 19 * ((i : Int) + 1) := by omega
              have hsz := HB2.out.size
              have HSZ := Lib.hid hsz
              clear hsz
              generalize (M ++ List.replicate z 0).length = ln at *
              clear hln
              go_wp2_with (refine wp_append_bytes rfl (.tmp 50) (.tmp 51) rfl w.heap.size ln _ _ rfl (HVO2.out.alloc _) (some ⟨wr.heap.size, 0, none⟩) 1 1 [0] rfl (one_bts wr 0 (by decide)) (by simp) (by have := HLN.out; have := HNM.out; omega) (by have := HSZ.out; simp; omega) ?_; intro v3 w3 hown3 hb3; have HO4 := Lib.hid hown3; have B3 := Lib.hid ((HB2.out.alloc HB2.out.size _).trans hb3); clear hown3 hb3)
              refine ⟨⟨z + 1, by have := HLN.out; omega, Lib.hid ?_, B3⟩, ?_⟩
              · unfold OwnB
                have hq : (M ++ List.replicate z (0 : Int)).length = ln := by
                  have h1 := HLN.out
                  have h2 := HL2.out
                  rw [List.length_append, List.length_replicate]
                  omega
                rw [List.replicate_succ', ← List.append_assoc, List.length_append, hq, List.map_append (l₂ := [0])]
                exact HO4.out
              · obtain ⟨vo3, vc3, hv3⟩ := owns_shape HO4.out
                rw [hv3]
                show 21 + 19 * i - (ln + 1) < 21 + 19 * i - ln
                have := HLN.out
                omega
            · have j1 : ¬ (((M ++ List.replicate z 0).length : Nat) : Int) < 2 + 19 * ((i : Int) + 1) := by omega
              have HEQ : Hid (M ++ List.replicate z 0 = entP es (i + 1)) := Lib.hid (by
                rw [HQ.out]
                congr 2
                omega)
              have HV3 : Hid (OwnB w.heap.size wr (.slice vo2 (M ++ List.replicate z 0).length vc2) (entP es (i + 1))) := Lib.hid (by rw [← HEQ.out]; exact HV2.out)
              generalize (M ++ List.replicate z 0).length = ln at *
              clear hln
              go_wp2_with fail
              go_roundw
              case rel => exact ⟨i + 1, by go_num, by omega, HV3, HB2⟩
              case measure => simp [intOf]; omega
      · obtain rfl : i = len := by omega
        have HE : Hid (sealOf sumS (entP es i) = entOut es ∧ (entP es i).length = 2 + 19 * i) := Lib.hid ⟨by
          rw [HO.out.1, ← HL.out]
          unfold entBlock entB entP
          rw [List.take_length], entP_length HS.out (by rw [HL.out]; omega)⟩
        obtain ⟨vo, vc, rfl⟩ := owns_shape HV.out
        have HBy : Hid (∀ z ∈ entP es i, 0 ≤ z ∧ z ≤ 255) := Lib.hid (by
          have h := (entB_bytes HS.out).1
          unfold entP
          rw [← HL.out, List.take_length]
          exact h)
        have hA4 : Arg wo vo (entP es i).length vc (entP es i) := by
          obtain ⟨ao', cap', hv', hAr, _⟩ := fresh_of_owns HV.out HBy.out (by rw [HE.out.2]; omega)
          simp only [Value.slice.injEq, true_and] at hv'
          obtain ⟨rfl, rfl⟩ := hv'
          exact hAr
        have cS := Seal04_any vo _ vc _ wo hA4
        rw [HE.out.1] at cS
        clear hA4
        generalize (entP es i).length = ln at *
        go_wp2_with (go_at_call 29; refine cS.mono ?_; rintro e w5 ⟨v5, rfl, hf5, hb5⟩; have F5 := Lib.hid hf5; have B5 := Lib.hid hb5; clear hf5 hb5)
        go_ret2
        unfold EncDone
        rw [HO.out.2]
        exact ⟨v5, rfl, F5.out.mono HB.out.size, HB.out.trans (B5.out.mono HB.out.size)⟩
  · have HO : Hid (entOut es = [] ∧ entErr es = 2) := Lib.hid (by unfold entOut entErr; rw [if_neg hs, if_neg hs]; exact ⟨rfl, rfl⟩)
    have hs : soundE [es] = false := by simpa using hs
    rw [hs] at cP
    clear hs
    go_enter Try.func13, Try.ntmps13
    go_wp2_with (go_at_call 28; refine cP.mono ?_; rintro e w2 ⟨rfl, b2⟩; have B2 := Lib.hid (HB1.out.trans (b2.mono HB1.out.size)); clear b2)
    go_ret2
    unfold EncDone
    rw [HO.out.1, HO.out.2]
    exact ⟨_, rfl, Fresh.nil _ _, B2.out⟩

end Go.Proofs.Ytkpgefjbhimmgaa
